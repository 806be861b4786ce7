import PyProof.Rows.All
import Wide.All
import OpenK.AllK
import Wide.FinOn
import Lean
import PyProof.EqAt
import PyProof.EqKinds
import PyProof.TupleCall
import PySem.SetOps
import KE.KSortTup
import PyProof.Rows.SortShellK
import KE.KDictSum
import PyProof.Rows.StrJoin2
import PyProof.Rows.SumAny
import KE.KxText
import PyProof.ZipIter
import PyProof.Rows.FactsT2
import PyProof.Rows.ZipGen
import PyProof.StrOps2
import PyProof.ListRange
import PyProof.ListStr
import PyProof.FString5
import PyProof.AutoSeq1
import PyProof.MinMaxWalk
import PyProof.WalksMore
import PyProof.Rows.CallKwBuiltin
import KE.KMinKey
import PyProof.Rows.BitMore
import KE.KLam
import KE.KItemsList
import PyProof.AttrMiss
import PyProof.FactsAll.zip_1
import PyProof.FactsAll.zip_0
import KE.KDictOf
import PyProof.AttrMissHeap
import PySem.Challenge.RW_corepetals_k56_whole_rows_otherwise
open Array renaming filterMap -> jf, getD -> gv, getD_eq_getD_getElem? -> bN, getElem?_eq_some_iff -> c8, getElem?_replicate -> ix, getElem?_setIfInBounds_ne -> gg, getElem?_setIfInBounds_self_of_lt -> eZ, getElem?_toList -> aM, length_toList -> aK, mem_of_getElem? -> eW, mem_toList_iff -> dF, perm_iff_toList_perm -> cJ, replicate -> fK, size_append -> dg, size_map -> jq, size_push -> dq, toList_append -> bL, toList_inj -> iW, toList_push -> b4, toList_reverse -> fg, toList_setIfInBounds -> ic
open Array.Perm renaming refl -> jg
open Bool renaming and_eq_true -> bm, and_false -> jn, eq_false_iff -> d7, eq_iff_iff -> eU, false_eq_true -> aL, false_ne_true -> b8, not_eq_true -> fq, not_eq_true' -> bT, not_false -> jr, not_true -> fF
open Classical renaming byContradiction -> aJ
open False renaming elim -> dM
open ForInStep renaming done -> bg, yield -> bn
open Int renaming toNat_natCast -> bR
open LawfulBEq renaming eq_of_beq -> gu
open LawfulMonad renaming pure_bind -> iJ
open List renaming Nodup -> g8, Perm -> ju, all_eq_true -> br, all_map -> ef, any_eq_true -> gx, append_assoc -> aZ, append_cancel_left -> iZ, append_nil -> ci, drop_append -> fo, drop_append_of_le_length -> eN, drop_eq_getElem_cons -> bY, drop_eq_nil_of_le -> bO, drop_length -> gz, drop_zero -> fZ, eq_nil_of_length_eq_zero -> bV, ext_getElem -> iX, ext_getElem? -> d8, filterMap_append -> gi, filterMap_cons -> cb, filter_congr -> gf, filter_cons -> cN, filter_eq_self -> eE, find?_cons -> cV, flatMap_append -> fy, flatMap_cons -> gc, flatten_append -> eD, flatten_singleton -> dR, forIn_cons -> fI, getD_eq_getElem?_getD -> ah, getElem?_append_left -> du, getElem?_append_right -> bU, getElem?_cons_succ -> iM, getElem?_cons_zero -> iV, getElem?_drop -> g9, getElem?_eq_getElem -> af, getElem?_eq_none -> bu, getElem?_eq_some_iff -> aG, getElem?_map -> ba, getElem?_range -> gM, getElem?_set_ne -> e6, getElem?_take_of_lt -> fB, getElem_drop -> f7, getElem_map -> iY, getElem_mem -> cM, getElem_of_mem -> bB, getElem_take -> f6, idxOf_lt_length_of_mem -> gT, length -> e8, length_append -> av, length_cons -> aV, length_drop -> bq, length_eq_zero_iff -> dJ, length_eraseIdx_of_lt -> hZ, length_filter_le -> cU, length_map -> aj, length_nil -> dN, length_pos_iff -> eC, length_range -> cR, length_singleton -> dZ, length_take -> aQ, lookup_cons -> cL, map -> jA, mapM_toArray -> iq, map_append -> bS, map_congr_left -> fx, map_cons -> bi, map_map -> bd, map_nil -> dP, mem_append -> ar, mem_append_left -> bZ, mem_append_right -> aU, mem_cons -> aB, mem_cons_of_mem -> aq, mem_cons_self -> ao, mem_filter -> bC, mem_filterMap -> eP, mem_flatMap -> eK, mem_map -> aH, mem_of_getElem? -> ak, mem_of_mem_drop -> cF, mem_of_mem_take -> b5, mem_range -> aP, mem_reverse -> iU, mem_singleton -> aE, mem_take_iff_getElem -> ij, mergeSort_perm -> gN, nil_append -> bD, nodup_append -> cz, nodup_cons -> bt, nodup_nil -> dG, nodup_range -> iL, not_mem_nil -> eG, of_mem_zip -> jd, pairwise_append -> bf, pairwise_cons -> aW, pairwise_flatMap -> gp, pairwise_iff_getElem -> cr, pairwise_lt_range -> f8, pairwise_map -> bH, pairwise_mergeSort -> fS, pairwise_reverse -> gn, pairwise_singleton -> bJ, perm_append_comm -> cT, perm_append_singleton -> hJ, perm_middle -> fm, range -> aT, range_succ -> fJ, replicate -> gY, reverse_perm -> ir, size_toArray -> am, take_add_one -> dH, take_append_drop -> bj, take_append_of_le_length -> cS, take_length -> dX, take_of_length_le -> bE, take_sublist -> fU, zip_cons_cons -> eR, zip_nil_right -> hX
open List.Pairwise renaming filter -> cq, imp -> gb, imp_of_mem -> bz, nil -> d6, sublist -> jl
open List.Perm renaming append_left -> d0, append_right -> dQ, refl -> c9
open Ne renaming symm -> cf
open Option renaming getD_none -> iI, isSome_iff_exists -> cy, map_eq_some_iff -> dh
open Option.some renaming inj -> aR
open Or renaming inl -> bp, inr -> gK
open PyProof.Rows renaming AllBare -> io, IntsAre -> gP, Keyed -> aI, SortKind -> eI, SortSt -> cH, StrsAre -> jc, arrOf -> aN, callWith_type1 -> dO, elem' -> dY, envOfC -> iu, failedOf -> ff, get?_update_seq -> fM, lt_str -> jv, mirror -> dr, pairsOf -> gD, pairsOf_toList -> ie, pendingOf -> bF, reverseSlice'_eq -> cZ, seqObj -> cm, setArr -> cC, setPending -> fh, slot_tuple_getitem -> b9, sortedHeap -> gy, wpS_bind -> au, wpS_forRange -> bI, wpS_get -> gS, wpS_lift -> h9, wpS_modify -> cI, wpS_mono -> cY, wpS_pure -> aA
open PyProof.Rows.F renaming entry_set_update_loop -> cP, plain_set_update_loop -> bM
open PyProof.Rows.SortSt renaming mk' -> h8
open PySem renaming Around -> aY, Builtin -> cg, Comprehension -> iw, Fin -> gV, FuncData -> dw, Heap -> a9, Keyword -> fX, NameKind -> eT, Paired -> bb, Program -> aC, SetTable -> aS, Shared -> ai, Value -> ad, World -> aO, assign -> i5, assignEach -> dy, attributeBase -> fD, backTo -> cD, backToKw -> jm, behindInMarks -> dU, binaryOp -> eF, bootBuiltins -> cu, builtinLookup_eq_fast -> gk, cLine -> cx, call_meets -> g6, cellsFrom -> fQ, codeAny -> fj, codeAny_builtin -> cj, codeAny_mono -> fk, codeAny_of_tree -> gF, compEnvC -> jo, compTurn -> fE, compareOp -> dl, concat_meets -> i7, firstArgMember -> hU, foldedSetIterable -> cQ, getItem -> gA, holding -> fG, keywordEach -> gE, letOwnedTupleGo -> eS, mainGlobals -> a8, mem_of_lookup -> ew, model -> aF, noFill_tuple_add -> iH, ofAClassStatement -> eY, pickOrder -> gU, plainId_quiet -> er, pushCells -> iK, putSet_of -> gw, pyNext -> eV, rawInt -> fw, relayAll -> iP, setAddHashed -> i8, setField -> js, sizeLine_eq -> be, sliceBounds -> eL, standAt -> gO, starEach -> ay, strKind -> dE, swapsWith -> iG, sysModules -> fN, unsupported -> eM, wpAny -> aD, wpAny_Call_Name_kw -> gX, wpAny_askSetting -> dW, wpAny_bind -> aa, wpAny_callSpecial?_slot -> cX, wpAny_call_entry -> cK, wpAny_field -> fc, wpAny_forIn_list -> iN, wpAny_holding -> bh, wpAny_isInstance -> iR, wpAny_ite_split -> gI, wpAny_loadPart' -> fL, wpAny_mono -> c6, wpAny_newList -> iB, wpAny_newObj_type -> bA, wpAny_passesOwn -> fH, wpAny_pure -> ae, wpAny_pyIter_list -> d9, wpAny_pyIter_tuple -> fP, wpAny_pyNext_list_end -> gh, wpAny_pyNext_list_item -> fT, wpAny_rule -> c7, wpAny_seqItems -> eH, wpAny_setField_rec -> cG, wpAny_setState_of -> db, wpAny_specialOf -> gG, wpAny_standAt -> fA, wpAny_storeSet_of -> f9, wpAny_truthy_bool -> eX, wpAny_typeOf -> eQ, wpAny_updateSeq -> gJ
open PySem.Around renaming under_plainId -> bQ
open PySem.AutoSeq1 renaming sub_tuple_tuple -> iz, wpAny_loadPart' -> iE
open PySem.Builtin.Dict renaming updateFrom -> i3
open PySem.Builtin.Frozenset renaming updateFrom -> gH
open PySem.Builtin.List renaming listExtendWith -> gR, listLengthHint -> gQ, listSameRef -> iA, listTooLong -> dD
open PySem.Builtin.Slice renaming sliceAdjust -> ft, sliceApplied -> e9, slicePlaces -> d3
open PySem.Builtin.SmallTypes renaming nextOf -> ig
open PySem.Builtin.Str renaming strSliceIndices -> bP
open PySem.Builtin.Tuple renaming tupleExact -> b7, tupleItemsOf -> gZ
open PySem.Calls renaming Name_function_global -> gW, call_function_entry -> fu
open PySem.Code renaming compLoop -> gC, compStart -> fY
open PySem.F renaming args_tuple_add_2 -> fC, args_tuple_lt_2 -> iS, called_set -> bo, entry_extend_loop -> ii, entry_set_init -> ja, entry_tuple_add -> fR, entry_tuple_lt -> jb, entry_type_call -> iQ, plainAttrs_list -> eJ, plain_extend_loop -> d4, plain_list_iadd -> iT, plain_set_new -> ji, slot_list_extend -> iC, slot_set_iter -> jj, slot_tuple_add -> fW, slot_tuple_lt -> gj, typeCall_set_1 -> i9, type_list_extend -> iD
open PySem.Heap renaming SameBut -> dA, get?_push_of_some -> ag, get?_push_size -> ax, get?_update_other -> cv, get?_update_self -> ca, lt_size -> az, size_push -> cE
open PySem.Heap.SameBut renaming refl -> ip, update -> bW
open PySem.NameKind renaming cell -> gB, free -> aX
open PySem.Obj renaming mapSeq -> bK, putSet -> dz
open PySem.Paired renaming length -> b6
open PySem.PassesOwn renaming never -> gL
open PySem.SeqAt renaming EqAt -> cW, RcNeAt -> cw
open PySem.SeqAt.EqAt renaming of_refs -> jy, same -> jh, str_str -> hW
open PySem.SetTable renaming fill -> jx, fits -> jw, fresh -> jp, grown -> de
open PySem.Shared renaming TypeIs -> iy
open PySem.Str renaming ofString -> a7
open PySem.Value renaming int -> jt, isStrOf -> fz, isStrOf_shape -> fv, none -> bX, ref -> gq, str -> iF, type -> cO
open PySem.W renaming Frag -> ap, OpenLaw -> je, cellsFrom_some -> i6, codeIn -> fV, fnOf -> d5, keepIn -> e7, methodObj -> ik, mg_none_of -> g7, nsIn -> bG
open PySem.pickOrder renaming go -> jz
open Sum renaming inl -> i4, inr -> c5
set_option Elab.async false
set_option linter.all false
set_option maxRecDepth 100000
namespace L2
open PySem PySem.Spec PyProof.Rows
abbrev Key:=Sum Int Str
def bZx:Key->ad->Bool
 | .inl k,v=>ad.isInt k v
 | .inr x,v=>fz x v
def keyH (w:aO):Key->Int
 | .inl k=>hashInt k
 | .inr x=>hashStr w x
theorem aQl:∀ {k:Key} {v:ad},bZx k v=true->(∃ i t,k=i4 i/\v=jt i t)\/(∃ x t,k=c5 x/\v=iF x t)
 | .inl i,v,h=>by
  obtain⟨t,e⟩:=ad.isInt_shape (k:=i) (v:=v) h;exact .inl ⟨i,t,rfl,e⟩
 | .inr x,v,h=>by
  obtain⟨t,e⟩:=fv (x:=x) (v:=v) h;exact .inr ⟨x,t,rfl,e⟩
theorem cZv (i:Int) (t:Tok):bZx (.inl i) (.int i t)=true:=by simp[bZx,ad.isInt]
theorem cZw (x:Str) (t:Tok):bZx (.inr x) (.str x t)=true:=by simp[bZx,fz]
theorem eZz (a b:Int):decide ((i4 a:Key)=i4 b)=(a == b):=by
 by_cases e:a=b
 ·subst e;simp
 ·have h:¬ (i4 a:Key)=i4 b:=λq=>e (i4.inj q);rw[decide_eq_false h];exact(beq_eq_false_iff_ne.mpr e).symm
theorem eX0 (a b:Str):decide ((c5 a:Key)=c5 b)=decide (a=b):=by
 by_cases e:a=b
 ·subst e;simp
 ·have h:¬ (c5 a:Key)=c5 b:=λq=>e (c5.inj q);rw[decide_eq_false h,decide_eq_false e]
theorem eX1 (a:Int) (b:Str):decide ((i4 a:Key)=c5 b)=false:=decide_eq_false (λq=>nomatch q)
theorem eX2 (a:Str) (b:Int):decide ((c5 a:Key)=i4 b)=false:=decide_eq_false (λq=>nomatch q)
def aQk (prog:aC) (w:aO):PySem.KeyKind prog w Key where
 is:=bZx
 hash:=keyH w
 inj:=λv a b ha hb=>by
  rcases aQl ha with⟨i,t,rfl,rfl⟩ | ⟨x,t,rfl,rfl⟩
  ·rcases aQl hb with⟨j,u,rfl,e⟩ | ⟨y,u,rfl,e⟩
   ·injection e with e1 _;rw[e1]
   ·exact nomatch e
  ·rcases aQl hb with⟨j,u,rfl,e⟩ | ⟨y,u,rfl,e⟩
   ·exact nomatch e
   ·injection e with e1 _;rw[e1]
 byValue:=λk v h=>by
  rcases aQl h with⟨i,t,rfl,rfl⟩ | ⟨x,t,rfl,rfl⟩ <;> rfl
 pyHash:=λhv h=>by
  rcases aQl hv with⟨i,t,rfl,rfl⟩ | ⟨x,t,rfl,rfl⟩
  ·exact wpAny_pyHash_int h
  ·exact wpAny_pyHash_str h
 eqBool:=λhu hv h=>by
  rcases aQl hu with⟨i,t,rfl,rfl⟩ | ⟨x,t,rfl,rfl⟩
  ·rcases aQl hv with⟨j,u,rfl,rfl⟩ | ⟨y,u,rfl,rfl⟩
   ·rw[eZz] at h;exact wpAny_eqBool_int h
   ·rw[eX1] at h;exact cW.int_str i t y u _ _ _ _ h
  ·rcases aQl hv with⟨j,u,rfl,rfl⟩ | ⟨y,u,rfl,rfl⟩
   ·rw[eX2] at h;exact cW.str_int x t j u _ _ _ _ h
   ·rw[eX0] at h;exact wpAny_eqBool_str h
 «strs»:=λk x t v h=>by
  rcases aQl h with⟨i,u,rfl,e⟩ | ⟨y,u,rfl,e⟩
  ·exact nomatch e
  ·injection e with e1 _
   subst e1;cases v <;> rfl
theorem bJ0 (prog:aC) (w:aO) (i:Int) (t:Tok):(aQk prog w).is (.inl i) (.int i t)=true:=cZv i t
theorem bJ1 (prog:aC) (w:aO) (x:Str) (t:Tok):(aQk prog w).is (.inr x) (.str x t)=true:=cZw x t
inductive V where
 | non | bl (b:Bool) | int (i:Int) | str (x:Str) | byt (b:Array UInt8) | flt (b:UInt64) | ref (a:Addr) | ty (n:String)
 deriving DecidableEq
def RelV:V->ad->Prop
 | .non,u=>u=bX
 | .bl b,u=>u=ad.bool b
 | .int i,u=>∃ t,u=jt i t
 | .str x,u=>∃ t,u=iF x t
 | .byt b,u=>∃ t,u=ad.bytes b t
 | .flt b,u=>∃ t,u=ad.float b t
 | .ref a,u=>u=gq a
 | .ty n,u=>u=cO n
abbrev Vals:List V->List ad->Prop:=bb RelV
theorem Vals.length {xs:List V} {us:List ad} (r:Vals xs us):xs.length=us.length:=b6 r
theorem Vals.get:∀ {xs:List V} {us:List ad} {i:Nat} {x:V},Vals xs us->xs[i]?=some x->∃ u,us[i]?=some u/\RelV x u
 | _,_,_,_,.nil,e=>by simp at e
 | _,_,0,_,.cons r _,e=>by simp at e;subst e;exact⟨_,rfl,r⟩
 | _,_,i + 1,x,.cons _ t,e=>by
  obtain⟨u,h1,h2⟩:=Vals.get (i:=i) (x:=x) t (by simpa using e)
  exact⟨u,by simpa using h1,h2⟩
theorem Vals.set {x:V} {u:ad} (r:RelV x u):∀ {xs:List V} {us:List ad} (i:Nat),Vals xs us->Vals (xs.set i x) (us.set i u)
 | _,_,_,.nil=>.nil
 | _,_,0,.cons _ t=>.cons r t
 | _,_,i + 1,.cons q t=>.cons q (Vals.set r i t)
theorem Vals.append:∀ {xs ys:List V} {us ws:List ad},Vals xs us->Vals ys ws->Vals (xs++ys) (us++ws)
 | _,_,_,_,.nil,s=>s
 | _,_,_,_,.cons r t,s=>.cons r (Vals.append t s)
theorem Vals.take:∀ {xs:List V} {us:List ad} (n:Nat),Vals xs us->Vals (xs.take n) (us.take n)
 | _,_,0,_=>.nil
 | _,_,_ + 1,.nil=>.nil
 | _,_,n + 1,.cons r t=>.cons r (Vals.take n t)
theorem Vals.drop:∀ {xs:List V} {us:List ad} (n:Nat),Vals xs us->Vals (xs.drop n) (us.drop n)
 | _,_,0,r=>r
 | _,_,_ + 1,.nil=>.nil
 | _,_,n + 1,.cons _ t=>Vals.drop n t
def RelO:Option V->Option ad->Prop
 | some v,some u=>RelV v u
 | none,none=>True
 | _,_=>False
def KV {κ:Type}:List (κ × V)->List (κ × ad)->Prop:=bb λ(p:κ × V) (q:κ × ad)=>p.1=q.1/\RelV p.2 q.2
def kV:Key->V
 | .inl i=>.int i
 | .inr x=>.str x
inductive HO where
 | lst (xs:List V)
 | tup (xs:List V)
 | dK (kvs:List (Key × V)) | dT (kvs:List (List Key × V))
 | set (S:Int->Bool) (n:Nat)
 | ins (C dx:Addr) (fs:List (Str × V))
 | own (x:Addr)
 | xd (fs:List (Str × V))
 | met (f x:Addr)
 | rng (lo hi:Int)
 | frz (o:Obj) (u:HO)
 | tbl (ps:Array ad)
 | ext (φ:a9->Prop)
abbrev Hp:=Addr->Option HO
def upd (H:Hp) (a:Addr) (o:HO):Hp:=λb=>if b=a then some o else H b
theorem aQg {H:Hp} {a:Addr} {o:HO}:upd H a o a=some o:=by unfold upd;rw[if_pos rfl]
theorem upd_ne {H:Hp} {a b:Addr} {o:HO} (h:b≠a):upd H a o b=H b:=by unfold upd;rw[if_neg h]
theorem aQd {H:Hp} {a b:Addr} {o:HO} (h:H a=some o) (h':H b=none):a≠b:=by
 intro e;subst e;rw[h] at h';cases h'
section
variable (P:aC) (w:aO)
def ObjOk (H:Hp) (h:a9) (a:Addr):HO->Prop
 | .lst xs=>xs.length<=sizeLine/\∃ (its:List ad) (n:Nat),Vals xs its/\h.get? a=some { cls:=.type "list",data:=.seq its.toArray n }
 | .tup xs=>xs.length<=sizeLine/\∃ its:List ad,Vals xs its/\IsTup h a its.toArray/\∀ o,h.get? a=some o->o.dict=none
 | .dK kvs=>kvs.length<=sizeLine/\(a == fN)=false/\∃ vs,KV kvs vs/\h.DictOf (aQk P w) a vs
 | .dT kvs=>kvs.length<=sizeLine/\(a == fN)=false/\∃ xs:List (List Key × Addr × ad),
   bb (λ(p:List Key × V) (q:List Key × Addr × ad)=>p.1=q.1/\H q.2.1=some (.tup (p.1.map kV))/\RelV p.2 q.2.2) kvs xs /\
   ∃ o es ep,h.get? a=some o/\o.ExactDict/\o.data=.dict es ep/\es.toList=xs.map (entryOfKey (tupleKind (aQk P w)))/\(xs.map (·.1)).Nodup
 | .set S n=>h.SetOf (intKind P w) a S n
 | .ins C dx fs=>H dx=some (.own a)/\fs.length<=1000/\dx≠a/\h.get? a=some (PySem.W.instObj C dx) /\
   ∃ mA,h.Ns1 dx mA/\(∀ f,RelO (fs.lookup f) (mA f))/\PySem.Within mA (fs.map (·.1))
 | .own _=>∃ o,h.get? a=some o
 | .xd fs=>∃ mA,h.Ns1 a mA/\∀ f,RelO (fs.lookup f) (mA f)
 | .rng lo hi=>∃ t u v,h.get? a=some { cls:=.type "range",data:=.fields #[.int lo t,.int hi u,.int 1 v] }
 | .frz o u=>h.get? a=some o/\ObjOk H h a u
 | .tbl ps=>h.get? a=some { cls:=.none,data:=.fields ps }
 | .met f x=>h.get? a=some (ik (.ref f) (.ref x))
 | .ext φ=>φ h/\(∃ o,h.get? a=some o)/\∀ h1 h2:a9,φ h1->(∀ o,h1.get? a=some o->h2.get? a=some o)->φ h2
def HOk (H:Hp) (h:a9):Prop:=∀ a o,H a=some o->ObjOk P w H h a o
end
section
variable {P:aC} {w:aO} {H H':Hp} {h h':a9} {a:Addr} {o:HO}
theorem ObjOk.lt (x:ObjOk P w H h a o):a < h.objs.size:=by
 cases o with
 | lst xs=>obtain⟨_,_,_,_,e⟩:=x;exact az e
 | tup xs=>obtain⟨_,_,_,p⟩:=x;exact p.1.lt
 | dK j=>obtain⟨_,_,_,_,o,_,_,e,_⟩:=x;exact az e
 | dT j=>obtain⟨_,_,_,_,o,_,_,e,_⟩:=x;exact az e
 | set S n=>obtain⟨o,_,_,_,e,_⟩:=x;exact az e
 | ins C z fs=>obtain⟨_,_,_,e,_⟩:=x;exact az e
 | own y=>obtain⟨_,e⟩:=x;exact az e
 | xd fs=>obtain⟨_,⟨_,_,_,e,_⟩,_⟩:=x;exact az e
 | rng lo hi=>obtain⟨_,_,_,e⟩:=x;exact az e
 | frz q u=>obtain⟨e,_⟩:=x;exact az e
 | tbl ps=>exact az (show h.get? a=some _ from x)
 | met f y=>exact az (show h.get? a=some _ from x)
 | ext φ=>obtain⟨_,⟨_,e⟩,_⟩:=x;exact az e
theorem Paired.mapP {α β:Type} {F G:α->β->Prop}:∀ {l₁:List α} {l₂:List β},bb F l₁ l₂->(∀ a b,F a b->G a b)->bb G l₁ l₂
 | _,_,.nil,_=>.nil
 | _,_,.cons r t,f=>.cons (f _ _ r) (Paired.mapP t f)
theorem ObjOk.stay (x:ObjOk P w H h a o) (k:∀ b u,(b=a\/H b=some (.own a))->h.get? b=some u->h'.get? b=some u)
  (ho:∀ b,H b=some (.own a)->H' b=some (.own a)) (ht:∀ b xs,H b=some (.tup xs)->H' b=some (.tup xs)):ObjOk P w H' h' a o:=by
 induction o with
 | lst xs=>obtain⟨z,its,n,r,e⟩:=x;exact⟨z,its,n,r,k _ _ (.inl rfl) e⟩
 | tup xs =>
  obtain⟨z,its,r,⟨j,e,c⟩,nd⟩:=x;exact⟨z,its,r,⟨j,k _ _ (.inl rfl) e,c⟩,λo q=>by rw[k _ _ (.inl rfl) e] at q;cases q;exact nd _ e⟩
 | dK J=>obtain⟨z,y,L,r,j,es,B,e,c⟩:=x;exact⟨z,y,L,r,j,es,B,k _ _ (.inl rfl) e,c⟩
 | dT J =>
  obtain⟨z,y,xs,r,j,es,B,e,c⟩:=x;exact⟨z,y,xs,Paired.mapP r λp q z=>⟨z.1,ht _ _ z.2.1,z.2.2⟩,j,es,B,k _ _ (.inl rfl) e,c⟩
 | set S n=>obtain⟨j,es,B,t,e,c⟩:=x;exact⟨j,es,B,t,k _ _ (.inl rfl) e,c⟩
 | ins C O fs =>
  obtain⟨d,z,ne,e,G,⟨D,es,B,e2,c⟩,r⟩:=x;exact⟨ho _ d,z,ne,k _ _ (.inl rfl) e,G,⟨D,es,B,k _ _ (.inr d) e2,c⟩,r⟩
 | own y=>obtain⟨j,e⟩:=x;exact⟨j,k _ _ (.inl rfl) e⟩
 | xd fs=>obtain⟨G,⟨D,es,B,e,c⟩,r⟩:=x;exact⟨G,⟨D,es,B,k _ _ (.inl rfl) e,c⟩,r⟩
 | rng lo hi=>obtain⟨t,u,v,e⟩:=x;exact⟨t,u,v,k _ _ (.inl rfl) e⟩
 | frz j u N=>obtain⟨e,q⟩:=x;exact⟨k _ _ (.inl rfl) e,N q⟩
 | tbl ps =>
  have e:h.get? a=some { cls:=.none,data:=.fields ps }:=x;show h'.get? a=some { cls:=.none,data:=.fields ps };exact k a _ (.inl rfl) e
 | met f y =>
  have e:h.get? a=some (ik (.ref f) (.ref y)):=x;show h'.get? a=some (ik (.ref f) (.ref y));exact k a _ (.inl rfl) e
 | ext φ=>obtain⟨p,⟨o,e⟩,st⟩:=x;exact⟨st _ _ p λo q=>k _ _ (.inl rfl) q,⟨o,k _ _ (.inl rfl) e⟩,st⟩
theorem cQ1 {g:a9} {arr:Array ad} {n:Nat}:∀ o,(g.push { cls:=.type "tuple",data:=.seq arr n }).get? g.objs.size=some o->o.dict=none:=λo e=>by
 rw[ax _ rfl] at e;cases e;rfl
theorem HOk.lt (x:HOk P w H h) (e:H a=some o):a < h.objs.size:=(x a o e).lt
theorem HOk.fresh (x:HOk P w H h) (e:h.objs.size<=a):H a=none:=by
 cases q:H a with
 | none=>rfl
 | some u=>exact absurd (Nat.lt_of_lt_of_le (x.lt q) e) (Nat.lt_irrefl _)
theorem HOk.kept (x:HOk P w H h) (k:∀ b u,h.get? b=some u->h'.get? b=some u):HOk P w H h':=λa o e =>
 (x a o e).stay (λb u _ q=>k b u q) (λ_ q=>q) λ_ _ q=>q
theorem HOk.laid (x:HOk P w H h) (k:∀ b u,h.get? b=some u->h'.get? b=some u) (hp:h.objs.size<=a) (new:ObjOk P w (upd H a o) h' a o):HOk P w (upd H a o) h':=λb u e=>by
 have hn:=x.fresh hp
 by_cases j:b=a
 ·subst j;rw[aQg] at e;cases e;exact new
 ·rw[upd_ne j] at e;exact(x b u e).stay (λc v _ q=>k c v q) (λc q=>by rw[upd_ne (aQd q hn)];exact q) λc xs q=>by rw[upd_ne (aQd q hn)];exact q
end
def Rd (H:Hp) (a:Addr) (u:HO):Prop:=H a=some u\/∃ o,H a=some (.frz o u)
theorem Rd.ok {P:aC} {w:aO} {H:Hp} {h:a9} {a:Addr} {u:HO} (r:Rd H a u) (x:HOk P w H h):ObjOk P w H h a u:=by
 rcases r with r | ⟨o,r⟩
 ·exact x a u r
 ·obtain⟨_,q⟩:=x a _ r;exact q
def Mut:Option HO->Prop
 | some (.lst _)=>True
 | some (.dK _)=>True
 | some (.dT _)=>True
 | some (.set _ _)=>True
 | some (.ins _ _ _)=>True
 | some (.ext _)=>True
 | _=>False
section
variable {P:aC} {w:aO} {H:Hp} {h h':a9} {x e:Addr} {o':HO}
theorem HOk.write (ok:HOk P w H h) (mu:Mut (H x)) (he:e=x\/H e=some (.own x)) (k:∀ b u,b≠e->h.get? b=some u->h'.get? b=some u) (heo:∃ u,h'.get? e=some u)
  (new:ObjOk P w (upd H x o') h' x o'):HOk P w (upd H x o') h':=λb u q=>by
 have B:∀ c y,H c=some (.own y)->c≠x:=λc y r z=>by subst z;rw[r] at mu;exact mu
 have ntup:∀ c xs,H c=some (.tup xs)->c≠x:=λc xs r z=>by subst z;rw[r] at mu;exact mu
 by_cases G:b=x
 ·subst G;rw[aQg] at q;cases q;exact new
 ·rw[upd_ne G] at q
  by_cases j:b=e
  ·have q':H b=some (.own x):=by
    rcases he with z | z
    ·exact absurd (j.trans z) G
    ·rw[j];exact z
   rw[q] at q';cases q';obtain⟨v,J⟩:=heo;exact⟨v,by rw[j];exact J⟩
  ·refine(ok b u q).stay (λc v D r=>k c v ?_ r) (λc r=>by rw[upd_ne (B c b r)];exact r) λc xs r=>by rw[upd_ne (ntup c xs r)];exact r
   rcases D with rfl | D
   ·exact j
   ·rintro rfl;rcases he with z | z
    ·exact B c b D z
    ·rw[D] at z;cases z;exact G rfl
end
structure Un (fs ex:List Addr) (H H':Hp) (h h':a9):Prop where
 keep:∀ b o,h.get? b=some o->H b=none->b∉fs->b∉ex->h'.get? b=some o
 slot:∀ b o,h.get? b=some o->H b=none->b∈fs->b∉ex->∃ sl,h'.get? b=some { o with slots:=sl }
 free:∀ b o,h.get? b=some o->H b=none->b∉ex->H' b=none
 there:∀ b o,h.get? b=some o->b∉ex->∃ o',h'.get? b=some o'
 tups:∀ b xs,H b=some (.tup xs)->H' b=some (.tup xs)
 frzs:∀ b o u,H b=some (.frz o u)->H' b=some (.frz o u)
 tbls:∀ b ps,H b=some (.tbl ps)->∃ more,H' b=some (.tbl (ps++more))
section
variable {fs fs' ex ex':List Addr} {H H1 H2:Hp} {h h1 h2 h':a9} {a x e:Addr} {o:HO}
theorem Un.any (u:Un fs ex H H1 h h1) {b:Addr} {ob:Obj} (q:h.get? b=some ob) (n:H b=none) (hx:b∉ex):∃ sl,h1.get? b=some { ob with slots:=sl }:=by
 by_cases j:b∈fs
 ·exact u.slot b ob q n j hx
 ·exact⟨ob.slots,u.keep b ob q n j hx⟩
theorem Un.kept (k:∀ b u,h.get? b=some u->h'.get? b=some u):Un fs ex H H h h' :=
 ⟨λb j q _ _ _=>k b j q,λb j q _ _ _=>⟨j.slots,k b j q⟩,λ_ _ _ n _=>n,λb j q _=>⟨j,k b j q⟩,λ_ _ q=>q,λ_ _ _ q=>q,λ_ ps q=>⟨#[],by rw[q];simp⟩⟩
theorem Un.refl:Un fs ex H H h h:=Un.kept λ_ _ q=>q
theorem Un.laid (k:∀ b u,h.get? b=some u->h'.get? b=some u) (hp:h.objs.size<=a) (hn:H a=none):Un fs ex H (upd H a o) h h' where
 keep:=λb u q _ _ _=>k b u q
 slot:=λb u q _ _ _=>⟨u.slots,k b u q⟩
 free:=λb u q n _=>by rw[upd_ne (Nat.ne_of_lt (Nat.lt_of_lt_of_le (az q) hp))];exact n
 there:=λb u q _=>⟨u,k b u q⟩
 tups:=λb xs q=>by rw[upd_ne (aQd q hn)];exact q
 frzs:=λb u xs q=>by rw[upd_ne (aQd q hn)];exact q
 tbls:=λb ps q=>⟨#[],by rw[upd_ne (aQd q hn),q];simp⟩
theorem Un.write (mu:Mut (H x)) (he:e=x\/H e=some (.own x)) (k:∀ b u,b≠e->h.get? b=some u->h'.get? b=some u) (heo:∃ u,h'.get? e=some u):Un fs ex H (upd H x o) h h':=by
 have B:∀ b,H b=none->b≠x:=λb n z=>by subst z;rw[n] at mu;exact mu
 have D:∀ b,H b=none->b≠e:=λb n z=>by
  subst z;rcases he with r | r
  ·exact B b n r
  ·rw[n] at r;cases r
 have hm:∀ b u,H b=some u->¬ Mut (some u)->b≠x:=λb u q nm z=>by subst z;rw[q] at mu;exact nm mu
 refine⟨λb u q n _ _=>k b u (D b n) q,λb u q n _ _=>⟨u.slots,k b u (D b n) q⟩,λb u q n _=>by rw[upd_ne (B b n)];exact n,λb u q _=>?_,
  λb xs q=>by rw[upd_ne (hm b _ q λz=>z)];exact q,λb u xs q=>by rw[upd_ne (hm b _ q λz=>z)];exact q,λb ps q=>⟨#[],by rw[upd_ne (hm b _ q λz=>z),q];simp⟩⟩
 by_cases j:b=e
 ·subst j;exact heo
 ·exact⟨u,k b u j q⟩
end
def trk (h:a9) (H:Hp):List Addr:=(aT h.objs.size).filter λa=>(H a).isSome
def hidT (h:a9) (H:Hp):a9:=PySem.W.hideAll h (trk h H)
theorem cZx (h:a9) (H:Hp):(hidT h H).objs.size=h.objs.size:=PySem.W.hideAll_size _ _
theorem dQh {h:a9} {H:Hp} {b:Addr} {o:Obj} (e:h.get? b=some o) (n:H b=none):(hidT h H).get? b=some o :=
 PySem.W.hideAll_get _ e λhm=>by
  have q:(H b).isSome=true:=(bC.mp hm).2;rw[n] at q;simp at q
theorem dJ3 {h:a9} {H:Hp} {b:Addr} {o:Obj} (e:(hidT h H).get? b=some o):h.get? b=some o/\H b=none:=by
 have j:h.get? b=some o:=PySem.W.of_hideAll (trk h H) e;refine⟨j,?_⟩;cases q:H b with
 | none=>rfl
 | some x =>
  have hm:b∈trk h H:=bC.mpr ⟨aP.mpr (az j),by simp[q]⟩
  have z:(hidT h H).get? b=none:=PySem.W.hideAll_none (trk h H) hm;rw[z] at e;cases e
structure Mod (K:ap) (mg:Str->Option ad) (base:a9):Prop where
 kin:K.In base
 glob:base.Ns a8 mg
 blt:∃ mb,base.Ns builtinsNs mb/\∀ x:Str,x ≠ "__name__"->mb x=cu x
 nolimit:base.NoLimit
structure Cx where
 prog:aC
 w:aO
 K:ap
 mg:Str->Option ad
 base:a9
 A:aY
 N:List Str
 s₀:ai
 H₀:Hp
 env:Env
 outer:List Env
 stack:List Env
 ex:List Addr
 fn:Str->Bool
 calm:Bool
 pn:List (Addr × Obj)
 xe:ad->ai->Prop
def frs (l:List Env):List Addr:=l.filterMap (·.frame)
abbrev Cx.fs (X:Cx):List Addr:=frs X.outer
def Vis (sc:Scope) (x:Str):Prop:=sc.names.lookup x=some .local\/sc.names.lookup x=some .cell\/sc.names.lookup x=some .free
def Loc (sc:Scope) (x:Str):Prop:=sc.names.lookup x=some .local\/sc.names.lookup x=some .cell
def Look (env:Env) (h:a9) (m:Str->Option ad) (x:Str) (u:ad):Prop :=
 (env.kindOf x=some .local/\m x=some u)\/((env.kindOf x=some .cell\/env.kindOf x=some .free)/\∃ c,env.cells.lookup x=some c/\h.IsCell c (some u))
structure Cx.Ok (X:Cx):Prop where
 mod:Mod X.K X.mg X.base
 kind:X.env.scope.kind=.function
 glob:X.env.globals=a8
 blt:X.env.builtins=builtinsNs
 above:X.s₀.heap.objs.size<=X.env.locals
 inj:∀ x y c,X.env.cells.lookup x=some c->X.env.cells.lookup y=some c->x=y
 has:∀ x,(X.env.kindOf x=some .cell\/X.env.kindOf x=some .free)->∃ c,X.env.cells.lookup x=some c
 cab:∀ x c,X.fn x=true->X.env.cells.lookup x=some c->X.s₀.heap.objs.size<=c
 hd:X.calm=true->X.A.handled=none
 frames:X.A.frames=some X.stack
 gd:X.A.guards=some []
 stk:X.stack=X.outer\/(X.stack=X.env::X.outer/\X.env.frame=some X.env.locals)
 exf:∀ b∈X.ex,b≠X.env.locals/\∀ x c,X.env.cells.lookup x=some c->c≠b
 bs:∀ b o,X.base.get? b=some o->X.s₀.heap.get? b=some o/\X.H₀ b=none
 bsz:X.base.objs.size<=X.s₀.heap.objs.size
 noex:∀ b o,X.base.get? b=some o->b∉X.ex
 exfs:∀ b∈X.ex,b∉X.fs
 funs:X.s₀.heap.FunFrames X.base X.outer
 frf:∀ b∈X.fs,X.H₀ b=none
structure Inv (X:Cx) (pins:List (Addr × Obj)) (σ:List (Option V)) (H:Hp) (s:ai):Prop where
 ok:X.Ok
 os:s.os=X.s₀.os
 bare:io s.gens
 base:Un X.fs X.ex X.H₀ H X.s₀.heap s.heap
 loc:∃ m,s.heap.Ns X.env.locals m/\∀ (i:Nat) (x:Str) (v:V),X.N[i]?=some x->σ[i]?=some (some v)->Vis X.env.scope x->∃ u,RelV v u/\Look X.env s.heap m x u
 cell:∀ x c,X.env.cells.lookup x=some c->∃ v,s.heap.IsCell c v
 free:H X.env.locals=none
 freeC:∀ x c,X.env.cells.lookup x=some c->H c=none
 pin:∀ p∈X.pn++pins,s.heap.get? p.1=some p.2/\H p.1=none/\p.1≠X.env.locals/\p.1∉X.fs/\∀ v,p.2.data≠.cell v
 hok:HOk X.prog X.w H s.heap
 len:σ.length=X.N.length
section
variable {X:Cx} {pins:List (Addr × Obj)} {σ:List (Option V)} {H H':Hp} {s:ai} {h':a9}
theorem Cx.Ok.nofr (ok:X.Ok) {b:Addr} {o:Obj} (e:X.base.get? b=some o):b∉X.fs:=λj=>by
 have:=(ok.funs.mem j).1
 rw[e] at this;cases this
theorem Inv.bs (I:Inv X pins σ H s):∀ b o,X.base.get? b=some o->s.heap.get? b=some o/\H b=none:=λb o e =>
 ⟨I.base.keep b o (I.ok.bs b o e).1 (I.ok.bs b o e).2 (I.ok.nofr e) (I.ok.noex b o e),I.base.free b o (I.ok.bs b o e).1 (I.ok.bs b o e).2 (I.ok.noex b o e)⟩
theorem Inv.bk (I:Inv X pins σ H s):∀ b o,X.base.get? b=some o->s.heap.get? b=some o:=λb o e=>(I.bs b o e).1
theorem Inv.mod (I:Inv X pins σ H s):Mod X.K X.mg X.base:=I.ok.mod
theorem Inv.kIn (I:Inv X pins σ H s):X.K.In s.heap:=I.ok.mod.kin.keeps I.bk
theorem Inv.lt (I:Inv X pins σ H s):X.env.locals < s.heap.objs.size:=let ⟨_,hn,_⟩:=I.loc;hn.lt
theorem Inv.sz (I:Inv X pins σ H s):X.s₀.heap.objs.size<=s.heap.objs.size:=Nat.le_trans I.ok.above (Nat.le_of_lt I.lt)
theorem Inv.nofs (I:Inv X pins σ H s) {a:Addr} (h:s.heap.objs.size<=a):a∉X.fs:=λq=>by
 obtain⟨_,o,j,_⟩:=I.ok.funs.mem q;exact absurd (Nat.lt_of_lt_of_le (az j) (Nat.le_trans I.sz h)) (Nat.lt_irrefl _)
theorem Inv.cne (I:Inv X pins σ H s):∀ x c,X.env.cells.lookup x=some c->c≠X.env.locals:=λx c e z=>by
 obtain⟨v,o,ho,hd⟩:=I.cell x c e;obtain⟨m,⟨o',es,B,j,q,_⟩,_⟩:=I.loc;rw[z,j] at ho;cases ho;rw[q] at hd;cases hd
theorem Inv.funs (I:Inv X pins σ H s):s.heap.FunFrames X.base X.outer:=by
 have all:∀ (l:List Env),(∀ b∈frs l,b∈X.fs)->X.s₀.heap.FunFrames X.base l->s.heap.FunFrames X.base l:=by
  intro l
  induction l with
  | nil=>intro _ _;trivial
  | cons env r D =>
   intro B hl;obtain⟨N,⟨L,o,hf,hn,J,hd⟩,G⟩:=hl;have q:L∈X.fs:=B L (by unfold frs;rw[cb,hf];exact ao)
   obtain⟨sl,e⟩:=I.base.slot L o J (I.ok.frf L q) q λz=>I.ok.exfs L z q;exact⟨N,⟨L,_,hf,hn,e,hd⟩,D (λb j=>B b (by unfold frs;rw[cb,hf];exact aq _ j)) G⟩
 exact all X.outer (λ_ j=>j) I.ok.funs
theorem Inv.stack (I:Inv X pins σ H s):s.heap.FunFrames X.base X.stack:=by
 rcases I.ok.stk with e | ⟨e,hf⟩
 ·rw[e];exact I.funs
 ·rw[e];obtain⟨m,hn,_⟩:=I.loc;refine .cons (by rw[I.ok.kind];decide) hf hn ?_ I.funs
  exact a9.get?_none_of_le (Nat.le_trans I.ok.bsz I.ok.above)
theorem Inv.stkSub (I:Inv X pins σ H s):∀ b∈frs X.stack,b∈X.env.locals::X.fs:=λb j=>by
 rcases I.ok.stk with e | ⟨e,hf⟩
 ·rw[e] at j;exact aq _ j
 ·rw[e] at j;unfold frs at j;rw[cb,hf] at j;exact j
theorem Inv.stkFree (I:Inv X pins σ H s):∀ b∈frs X.stack,H b=none:=λb j=>by
 rcases aB.mp (I.stkSub b j) with e | j
 ·rw[e];exact I.free
 ·obtain⟨_,o,q,_⟩:=I.ok.funs.mem j;exact I.base.free b o q (I.ok.frf b j) λz=>I.ok.exfs b z j
theorem Inv.step {g':Array GenState} {t':Nat} {d':Drawn} {ch:List Addr} (I:Inv X pins σ H s)
  (hch:∀ b∈ch,(b∈X.ex\/X.s₀.heap.objs.size<=b)/\b≠X.env.locals/\(∀ x c,X.env.cells.lookup x=some c->c≠b)/\∀ p∈X.pn++pins,p.1≠b)
  (keep:∀ b o,b≠X.env.locals->b∉X.fs->b∉ch->s.heap.get? b=some o->H b=none->h'.get? b=some o)
  (slot:∀ b o,b≠X.env.locals->b∈X.fs->b∉ch->s.heap.get? b=some o->H b=none->∃ sl,h'.get? b=some { o with slots:=sl }) (free:∀ b o,b∉ch->s.heap.get? b=some o->H b=none->H' b=none)
  (there:∀ b o,b∉ch->s.heap.get? b=some o->∃ o',h'.get? b=some o')
  (tups:∀ b xs,H b=some (.tup xs)->H' b=some (.tup xs)) (frzs:∀ b o u,H b=some (.frz o u)->H' b=some (.frz o u)) (tbls:∀ b ps,H b=some (.tbl ps)->∃ more,H' b=some (.tbl (ps++more)))
  (ns:∀ m,s.heap.Ns X.env.locals m->h'.Ns X.env.locals m) (hok:HOk X.prog X.w H' h') (hg:io g') :
  Inv X pins σ H' { s with heap:=h',gens:=g',drawn:=d',toks:=t' }:=by
 have L:∀ b o,X.s₀.heap.get? b=some o->b≠X.env.locals:=λb o e=>Nat.ne_of_lt (Nat.lt_of_lt_of_le (az e) I.ok.above);have D:∀ b o,X.s₀.heap.get? b=some o->b∉X.ex->b∉ch:=λb o e j G=>by
  rcases(hch b G).1 with z | z
  ·exact j z
  ·exact absurd (Nat.lt_of_lt_of_le (az e) z) (Nat.lt_irrefl _)
 have cellK:∀ x c,X.env.cells.lookup x=some c->∀ v,s.heap.IsCell c v->h'.IsCell c v:=λx c e v ⟨o,J,hd⟩=>by
  have B:c∉ch:=λz=>(hch c z).2.2.1 x c e rfl
  by_cases U:c∈X.fs
  ·obtain⟨sl,q⟩:=slot c o (I.cne x c e) U B J (I.freeC x c e);exact⟨_,q,hd⟩
  ·exact⟨o,keep c o (I.cne x c e) U B J (I.freeC x c e),hd⟩
 refine⟨I.ok,I.os,hg,⟨λb o e n G j=>?_,λb o e n G j=>?_,λb o e n j=>?_,λb o e j=>?_,λb xs e=>tups b xs (I.base.tups b xs e),λb o xs e=>frzs b o xs (I.base.frzs b o xs e),λb ps e=>?_⟩,?_,λx c e=>?_,?_,λx c e=>?_,λp R=>?_,hok,I.len⟩
 ·exact keep b o (L b o e) G (D b o e j) (I.base.keep b o e n G j) (I.base.free b o e n j)
 ·obtain⟨sl,e1⟩:=I.base.slot b o e n G j;obtain⟨N,e2⟩:=slot b _ (L b o e) G (D b o e j) e1 (I.base.free b o e n j);exact⟨N,e2⟩
 ·obtain⟨o',e1⟩:=I.base.there b o e j;exact free b o' (D b o e j) e1 (I.base.free b o e n j)
 ·obtain⟨o',e1⟩:=I.base.there b o e j;exact there b o' (D b o e j) e1
 ·obtain⟨Z,e1⟩:=I.base.tbls b ps e;obtain⟨Y,e2⟩:=tbls b _ e1;exact⟨Z++Y,by rw[e2,Array.append_assoc]⟩
 ·obtain⟨m,hn,hl⟩:=I.loc;refine⟨m,ns m hn,λi x v e1 e2 e3=>?_⟩;obtain⟨u,r,l⟩:=hl i x v e1 e2 e3;refine⟨u,r,?_⟩;rcases l with l | ⟨k,c,e,z⟩
  ·exact .inl l
  ·exact .inr ⟨k,c,e,cellK x c e _ z⟩
 ·obtain⟨v,z⟩:=I.cell x c e;exact⟨v,cellK x c e v z⟩
 ·obtain⟨m,⟨o,_,_,J,_⟩,_⟩:=I.loc;exact free _ o (λz=>(hch _ z).2.1 rfl) J I.free
 ·obtain⟨v,o,J,hd⟩:=I.cell x c e;exact free c o (λz=>(hch c z).2.2.1 x c e rfl) J (I.freeC x c e)
 ·obtain⟨e,n,ne,O,d⟩:=I.pin p R;have B:p.1∉ch:=λz=>(hch p.1 z).2.2.2 p R rfl;exact⟨keep p.1 p.2 ne O B e n,free p.1 p.2 B e n,ne,O,d⟩
theorem Inv.un {t':Nat} (I:Inv X pins σ H s) (u:Un X.fs [] H H' s.heap h') (hok:HOk X.prog X.w H' h'):Inv X pins σ H' { s with heap:=h',toks:=t' }:=by
 obtain⟨m,⟨o,es,N,D,r⟩,_⟩:=id I.loc;obtain⟨sl,J⟩:=u.any D I.free (by simp)
 exact I.step (g':=s.gens) (d':=s.drawn) (ch:=[]) (λ_ z=>nomatch z) (λb o _ j _ e n=>u.keep b o e n j (by simp)) (λb o _ j _ e n=>u.slot b o e n j (by simp)) (λb o _ e n=>u.free b o e n (by simp)) (λb o _ e=>u.there b o e (by simp)) u.tups u.frzs u.tbls (λL hm=>by
  obtain⟨o',q,B,ho',G⟩:=hm;rw[D] at ho';cases ho';exact⟨_,q,B,J,G⟩) hok I.bare
theorem Inv.call {g':Array GenState} {t':Nat} {d':Drawn} {ch:List Addr} (I:Inv X pins σ H s) (u:Un (frs X.stack) ch H H' s.heap h') (hok:HOk X.prog X.w H' h') (hg:io g')
  (hch:∀ b∈ch,(b∈X.ex\/X.s₀.heap.objs.size<=b)/\b≠X.env.locals/\(∀ x c,X.env.cells.lookup x=some c->c≠b)/\∀ p∈X.pn++pins,p.1≠b) :
  Inv X pins σ H' { s with heap:=h',gens:=g',drawn:=d',toks:=t' }:=by
 obtain⟨m,⟨o,es,O,G,r⟩,_⟩:=id I.loc;obtain⟨sl,q⟩:=u.any G I.free λz=>(hch _ z).2.1 rfl;exact I.step (ch:=ch) hch (λb o q L j e n=>u.keep b o e n (λz=>(aB.mp (I.stkSub b z)).elim q L) j) (λb o _ _ j e n=>u.any e n j) (λb o j e n=>u.free b o e n j) (λb o j e=>u.there b o e j) u.tups u.frzs u.tbls (λN hm=>by
  obtain⟨o',B,D,ho',J⟩:=hm;rw[G] at ho';cases ho';exact⟨_,B,D,q,J⟩) hok hg
theorem Inv.turned {t':Nat} {it:Addr} (I:Inv X pins σ H s) (k:∀ b o,b≠it->s.heap.get? b=some o->h'.get? b=some o) (hn:H it=none) (hL:it≠X.env.locals)
  (h1:it∈X.ex\/X.s₀.heap.objs.size<=it) (h2:∀ x c,X.env.cells.lookup x=some c->c≠it) (h3:∀ p∈X.pn++pins,p.1≠it):Inv X pins σ H { s with heap:=h',toks:=t' }:=by
 have B:∀ b u,H b=some u->b≠it:=λb u e z=>by rw[z,hn] at e;cases e
 refine I.step (g':=s.gens) (d':=s.drawn) (ch:=[it]) (λb G=>?_) (λb o _ _ j e _=>k b o (λz=>j (by simp[z])) e) (λb o _ _ j e _=>⟨o.slots,k b o (λz=>j (by simp[z])) e⟩) (λ_ _ _ _ n=>n)
  (λb o j e=>⟨o,k b o (λz=>j (by simp[z])) e⟩) (λ_ _ e=>e) (λ_ _ _ e=>e) (λb ps e=>⟨#[],by rw[e];simp⟩) (λm hm=>?_) (λb u e=>?_) I.bare
 ·have e:b=it:=by simpa using G
  subst e;exact⟨h1,hL,h2,h3⟩
 ·obtain⟨o,es,J,D,r⟩:=hm;exact⟨o,es,J,k _ o (cf hL) D,r⟩
 ·refine(I.hok b u e).stay (λc v j q=>k c v ?_ q) (λ_ q=>q) λ_ _ q=>q;rcases j with z | z
  ·rw[z];exact B b u e
  ·exact B c _ z
theorem Inv.tok (I:Inv X pins σ H s) (t:Nat):Inv X pins σ H { s with toks:=t }:=I.un (h':=s.heap) (t':=t) Un.refl I.hok
theorem Inv.kept {t':Nat} (I:Inv X pins σ H s) (k:∀ b u,s.heap.get? b=some u->h'.get? b=some u):Inv X pins σ H { s with heap:=h',toks:=t' }:=I.un (Un.kept k) (I.hok.kept k)
theorem Inv.laid {a:Addr} {o:HO} {t':Nat} (I:Inv X pins σ H s) (k:∀ b u,s.heap.get? b=some u->h'.get? b=some u) (hp:s.heap.objs.size<=a) (new:ObjOk X.prog X.w (upd H a o) h' a o) :
  Inv X pins σ (upd H a o) { s with heap:=h',toks:=t' }:=I.un (Un.laid k hp (I.hok.fresh hp)) (I.hok.laid k hp new)
theorem Inv.write {x e:Addr} {o:HO} {t':Nat} (I:Inv X pins σ H s) (mu:Mut (H x)) (he:e=x\/H e=some (.own x)) (k:∀ b u,b≠e->s.heap.get? b=some u->h'.get? b=some u) (heo:∃ u,h'.get? e=some u)
  (new:ObjOk X.prog X.w (upd H x o) h' x o):Inv X pins σ (upd H x o) { s with heap:=h',toks:=t' }:=I.un (Un.write mu he k heo) (I.hok.write mu he k heo new)
theorem Inv.weak {σ':List (Option V)} (I:Inv X pins σ H s) (hl:σ'.length=σ.length) (w:∀ (i:Nat) v,σ'[i]?=some (some v)->σ[i]?=some (some v)):Inv X pins σ' H s :=
 ⟨I.ok,I.os,I.bare,I.base,let ⟨m,hn,j⟩:=I.loc;⟨m,hn,λi x v e1 e2 q=>j i x v e1 (w i v e2) q⟩,I.cell,I.free,I.freeC,I.pin,I.hok,hl.trans I.len⟩
theorem Inv.pins_of {pins':List (Addr × Obj)} (I:Inv X pins σ H s) (h:∀ p∈pins',s.heap.get? p.1=some p.2/\H p.1=none/\p.1≠X.env.locals/\p.1∉X.fs/\∀ v,p.2.data≠.cell v):Inv X pins' σ H s :=
 ⟨I.ok,I.os,I.bare,I.base,I.loc,I.cell,I.free,I.freeC,λp j=>(ar.mp j).elim (λz=>I.pin p (bZ _ z)) (h p),I.hok,I.len⟩
theorem nodup_ix {N:List Str} (hN:N.Nodup) {i j:Nat} {x:Str} (a:N[i]?=some x) (b:N[j]?=some x):i=j:=by
 obtain⟨h1,e1⟩:=aG.mp a;obtain⟨h2,e2⟩:=aG.mp b;exact(List.getElem_inj hN).mp (e1.trans e2.symm)
theorem bZy {M:Model} {A:aY} {E:ad->ai->Prop} {i:Nat} {x:Str} {v:V} {u:ad} {Q:Unit->ai->Prop} (I:Inv X pins σ H s) (hN:X.N.Nodup) (hi:X.N[i]?=some x) (hx:Loc X.env.scope x) (r:RelV v u)
  (h:∀ s',Inv X pins (σ.set i (some v)) H s'->(∃ a,dA a s.heap s'.heap/\(a=X.env.locals\/X.env.cells.lookup x=some a))->Q () s') (hf:X.fn x=true\/X.env.scope.names.lookup x=some .local:=by first | exact .inl rfl | exact .inr rfl | assumption):aD M A (storeName X.env x u) Q E s:=by
 obtain⟨m,hn,hl⟩:=id I.loc;have U:(X.env.scope.kind == .class || (X.env.scope.kind == .module && X.env.locals != X.env.globals))=false:=by rw[I.ok.kind];rfl
 have hiσ:i < σ.length:=by rw[I.len];exact(aG.mp hi).1
 have cne:=I.cne;have tracked:∀ {a:Addr} {h':a9},(∃ o,s.heap.get? a=some o/\H a=none)->dA a s.heap h'->HOk X.prog X.w H h':=λ{a h'} ha B b ob e=>by
  obtain⟨_,_,D⟩:=ha;refine(I.hok b ob e).stay (λc w' hc q=>(B.2 c ?_).trans q) (λ_ q=>q) λ_ _ q=>q;rintro rfl;rcases hc with rfl | hc
  ·rw[D] at e;cases e
  ·rw[D] at hc;cases hc
 rcases hx with hk | hk
 ·refine wpAny_storeName_local hk hn (λh' hn' B=>?_) U;obtain⟨oL,_,_,hoL,_⟩:=id hn;refine h _ ⟨I.ok,I.os,I.bare,⟨λb o e n L hx=>?_,λb o e n L hx=>?_,I.base.free,λb o e hx=>?_,I.base.tups,I.base.frzs,I.base.tbls⟩,⟨_,hn',λj y v' e1 e2 e3=>?_⟩,λy c e=>?_,I.free,I.freeC,λp hp=>?_,tracked ⟨oL,hoL,I.free⟩ B,by simpa using I.len⟩ ⟨_,B,.inl rfl⟩
  ·exact(B.2 b (Nat.ne_of_lt (Nat.lt_of_lt_of_le (az e) I.ok.above))).trans (I.base.keep b o e n L hx)
  ·obtain⟨sl,e1⟩:=I.base.slot b o e n L hx;exact⟨sl,(B.2 b (Nat.ne_of_lt (Nat.lt_of_lt_of_le (az e) I.ok.above))).trans e1⟩
  ·obtain⟨o',e1⟩:=I.base.there b o e hx;exact⟨o',(B.2 b (Nat.ne_of_lt (Nat.lt_of_lt_of_le (az e) I.ok.above))).trans e1⟩
  ·by_cases G:j=i
   ·subst G;rw[hi] at e1;cases e1;rw[List.getElem?_set_self hiσ] at e2;cases e2;exact⟨u,r,.inl ⟨hk,by simp⟩⟩
   ·rw[e6 (cf G)] at e2;obtain⟨u',r',q⟩:=hl j y v' e1 e2 e3;refine⟨u',r',?_⟩;rcases q with⟨k,e⟩ | ⟨k,c,e,z⟩
    ·refine .inl ⟨k,?_⟩
     have:y≠x:=λe=>G (nodup_ix hN e1 (e ▸ hi))
     simp[this,e]
    ·exact .inr ⟨k,c,e,z.sameBut B (cne y c e)⟩
  ·obtain⟨w',z⟩:=I.cell y c e;exact⟨w',z.sameBut B (cne y c e)⟩
  ·obtain⟨e,n,ne,nf,d⟩:=I.pin p hp;exact⟨(B.2 p.1 ne).trans e,n,ne,nf,d⟩
 ·have J:X.fn x=true:=by
   rcases hf with z | z
   ·exact z
   ·rw[z] at hk;cases hk
  obtain⟨c,hc⟩:=I.ok.has x (.inl hk);obtain⟨w',z⟩:=I.cell x c hc;refine wpAny_storeName_cell I.ok.kind hk hc z (λh' Z B=>?_);obtain⟨oc,R,O⟩:=id z;refine h { s with heap:=h' } ⟨I.ok,I.os,I.bare,⟨λb o e n L hx=>?_,λb o e n L hx=>?_,I.base.free,λb o e hx=>?_,I.base.tups,I.base.frzs,I.base.tbls⟩,⟨m,hn.sameBut B (cf (cne x c hc)),λj y v' e1 e2 e3=>?_⟩,λy c' e=>?_,I.free,I.freeC,λp hp=>?_,tracked ⟨oc,R,I.freeC x c hc⟩ B,by simpa using I.len⟩ ⟨c,B,.inr hc⟩
  ·exact(B.2 b (Nat.ne_of_lt (Nat.lt_of_lt_of_le (az e) (I.ok.cab x c J hc)))).trans (I.base.keep b o e n L hx)
  ·obtain⟨sl,e1⟩:=I.base.slot b o e n L hx;exact⟨sl,(B.2 b (Nat.ne_of_lt (Nat.lt_of_lt_of_le (az e) (I.ok.cab x c J hc)))).trans e1⟩
  ·obtain⟨o',e1⟩:=I.base.there b o e hx;exact⟨o',(B.2 b (Nat.ne_of_lt (Nat.lt_of_lt_of_le (az e) (I.ok.cab x c J hc)))).trans e1⟩
  ·by_cases G:j=i
   ·subst G;rw[hi] at e1;cases e1;rw[List.getElem?_set_self hiσ] at e2;cases e2;exact⟨u,r,.inr ⟨.inl hk,c,hc,Z⟩⟩
   ·rw[e6 (cf G)] at e2;obtain⟨u',r',q⟩:=hl j y v' e1 e2 e3;refine⟨u',r',?_⟩;rcases q with q | ⟨k,c',e,z'⟩
    ·exact .inl q
    ·refine .inr ⟨k,c',e,z'.sameBut B ?_⟩;rintro rfl;exact G (nodup_ix hN e1 (I.ok.inj _ _ _ e hc ▸ hi))
  ·by_cases Y:c'=c
   ·subst Y;exact⟨_,Z⟩
   ·obtain⟨w2,z2⟩:=I.cell y c' e;exact⟨w2,z2.sameBut B Y⟩
  ·obtain⟨e,n,ne,nf,d⟩:=I.pin p hp;refine⟨(B.2 p.1 ?_).trans e,n,ne,nf,d⟩;intro q;rw[q,R] at e;have q':oc=p.2:=aR e;exact d w' (by rw[<- q'];exact O)
theorem store_ok {M:Model} {A:aY} {E:ad->ai->Prop} {i:Nat} {x:Str} {v:V} {u:ad} {Q:Unit->ai->Prop} (I:Inv X pins σ H s) (hN:X.N.Nodup) (hi:X.N[i]?=some x) (hx:Loc X.env.scope x) (r:RelV v u)
  (h:∀ s',Inv X pins (σ.set i (some v)) H s'->Q () s') (hf:X.fn x=true\/X.env.scope.names.lookup x=some .local:=by first | exact .inl rfl | exact .inr rfl | assumption):aD M A (storeName X.env x u) Q E s :=
 bZy I hN hi hx r (λs' j _=>h s' j) hf
theorem Inv.call' {s':ai} {ch:List Addr} (I:Inv X pins σ H s) (ho:s'.os=s.os) (u:Un (frs X.stack) ch H H' s.heap s'.heap) (hok:HOk X.prog X.w H' s'.heap) (hg:io s'.gens)
  (hch:∀ b∈ch,(b∈X.ex\/X.s₀.heap.objs.size<=b)/\b≠X.env.locals/\(∀ x c,X.env.cells.lookup x=some c->c≠b)/\∀ p∈X.pn++pins,p.1≠b):Inv X pins σ H' s':=by
 obtain⟨h',g',d',t',o'⟩:=s';have e:o'=s.os:=ho;subst e;exact I.call (g':=g') (t':=t') (d':=d') u hok hg hch
end
abbrev XK:=ad->Option Addr->Hp->Prop
abbrev St:=List (Option V)
abbrev VK:=V->Hp->Prop
abbrev TE:=St->Hp->VK->Prop
abbrev TT:=St->Hp->(Bool->Hp->Prop)->Prop
abbrev TA:=St->Hp->(List V->Hp->Prop)->Prop
structure Ends where
 nx:St->Hp->Prop
 rt:VK
 bk:St->Hp->Prop:=λ_ _=>False
 ct:St->Hp->Prop:=λ_ _=>False
abbrev TS:=Ends->St->Hp->Prop
def EP (X:Cx) (pins:List (Addr × Obj)) (σ:St) (Q:VK) (u:ad) (s':ai):Prop:=∃ v H',Inv X pins σ H' s'/\RelV v u/\Q v H'
def TP (X:Cx) (pins:List (Addr × Obj)) (σ:St) (Q:Bool->Hp->Prop) (b:Bool) (s':ai):Prop:=∃ H',Inv X pins σ H' s'/\Q b H'
def AP (X:Cx) (pins:List (Addr × Obj)) (σ:St) (Q:List V->Hp->Prop) (us:List ad) (s':ai):Prop:=∃ vs H',Inv X pins σ H' s'/\Vals vs us/\Q vs H'
def SP (X:Cx) (pins:List (Addr × Obj)) (D:Ends) (f:Flow) (s':ai):Prop :=
 match f with
 | .next=>∃ σ' H',Inv X pins σ' H' s'/\D.nx σ' H'
 | .brk=>∃ σ' H',Inv X pins σ' H' s'/\D.bk σ' H'
 | .cont=>∃ σ' H',Inv X pins σ' H' s'/\D.ct σ' H'
 | .ret u=>∃ v σ' H',Inv X pins σ' H' s'/\RelV v u/\D.rt v H'
def PE (X:Cx) (e:Expr) (t:TE):Prop :=
 ∀ (pins:List (Addr × Obj)) (s:ai) (σ:St) (H:Hp) (Q:VK),Inv X pins σ H s->t σ H Q->aD (aF X.prog X.w) X.A (eval e X.env) (EP X pins σ Q) X.xe s
def PT (X:Cx) (e:Expr) (t:TT):Prop :=
 ∀ (pins:List (Addr × Obj)) (s:ai) (σ:St) (H:Hp) (Q:Bool->Hp->Prop),Inv X pins σ H s->t σ H Q->aD (aF X.prog X.w) X.A (isTrue e X.env (eval e X.env)) (TP X pins σ Q) X.xe s
def PW (X:Cx) (e:Expr) (t:TT):Prop :=
 ∀ (whole:Sem ad) (pins:List (Addr × Obj)) (s:ai) (σ:St) (H:Hp) (Q:Bool->Hp->Prop),Inv X pins σ H s->t σ H Q->aD (aF X.prog X.w) X.A (isTrue e X.env whole) (TP X pins σ Q) X.xe s
theorem PW.pt {X:Cx} {e:Expr} {t:TT} (h:PW X e t):PT X e t:=h _
def PA (X:Cx) (es:List Expr) (t:TA):Prop :=
 ∀ (pos:Pos) (pins:List (Addr × Obj)) (s:ai) (σ:St) (H:Hp) (Q:List V->Hp->Prop),Inv X pins σ H s->t σ H Q->aD (aF X.prog X.w) X.A (spliced (cD pos (ay es X.env))) (AP X pins σ Q) X.xe s
def PS (X:Cx) (st:Stmt) (t:TS):Prop :=
 ∀ (pins:List (Addr × Obj)) (s:ai) (σ:St) (H:Hp) (D:Ends),Inv X pins σ H s->t D σ H->aD (aF X.prog X.w) X.A (exec st X.env) (SP X pins D) X.xe s
def PSs (X:Cx) (st:List Stmt) (t:TS):Prop :=
 ∀ (pins:List (Addr × Obj)) (s:ai) (σ:St) (H:Hp) (D:Ends),Inv X pins σ H s->t D σ H->aD (aF X.prog X.w) X.A (execs st X.env) (SP X pins D) X.xe s
theorem thn {α:Type} {t:Sem α} {Q Q':α->ai->Prop} {M:Model} {A:aY} {E:ad->ai->Prop} {s:ai} (h:aD M A t Q E s) (hQ:∀ a s,Q a s->Q' a s):aD M A t Q' E s:=c6 h hQ λ_ _ x=>x
section
variable {X:Cx}
def tVar (i:Nat):TE:=fun σ H Q=>∃ v,σ[i]?=some (some v)/\Q v H
def tC (v:V):TE:=λ_ H Q=>Q v H
theorem eX3 {i:Nat} {x:Str} {pos:Pos} (hN:X.N[i]?=some x) (hv:Vis X.env.scope x) (hd:(x == ("__debug__" : Str))=false:=by decide) (hcd:(x == ("__classdict__" : Str))=false:=by decide):PE X (.Name x pos) (tVar i):=by
 intro pins s σ H Q I h;obtain⟨v,e,h⟩:=h;obtain⟨m,hn,hl⟩:=I.loc;obtain⟨u,r,l⟩:=hl i x v hN e hv;have fin:EP X pins σ Q u s:=⟨v,H,I,r,h⟩;rcases l with⟨q,hm⟩ | ⟨q,c,z,j⟩
 ·exact wpAny_Name (wpAny_loadName_local I.ok.kind q hn hm fin) hd
 ·rcases q with q | q
  ·exact wpAny_Name (wpAny_loadName_cell I.ok.kind q z j fin) hd
  ·exact wpAny_Name (wpAny_loadName_free I.ok.kind q z j fin hcd) hd
theorem eX4 {i j pos}:PE X (.Constant (.int i) j pos) (tC (.int i)):=λ_ _ _ H _ I h=>wpAny_Constant_int ⟨.int i,H,I.tok _,⟨_,rfl⟩,h⟩
theorem fZj {b j pos}:PE X (.Constant (.bool b) j pos) (tC (.bl b)):=λ_ _ _ H _ I h=>Constant_bool ⟨.bl b,H,I,rfl,h⟩
theorem eX5 {x j pos}:PE X (.Constant (.str x) j pos) (tC (.str x)):=λ_ _ _ H _ I h=>Calls.Constant_str ⟨.str x,H,I.tok _,⟨_,rfl⟩,h⟩
def Gl (X:Cx) (x:Str):Prop:=X.env.kindOf x=some .globalImplicit
theorem ld_glob {E:ad->ai->Prop} {pins:List (Addr × Obj)} {s:ai} {σ:St} {H:Hp} {x:Str} {u:ad} {pos:Pos} {Q:ad->ai->Prop} (I:Inv X pins σ H s) (hg:Gl X x) (hm:X.mg x=some u) (h:Q u s)
  (hd:(x == ("__debug__" : Str))=false:=by decide):aD (aF X.prog X.w) X.A (eval (.Name x pos) X.env) Q E s :=
 gW I.ok.kind hg (Calls.loadGlobal_global (by rw[I.ok.glob];exact I.mod.glob.keeps I.bk) hm h) hd
theorem ld_blt {E:ad->ai->Prop} {pins:List (Addr × Obj)} {s:ai} {σ:St} {H:Hp} {x:Str} {u:ad} {pos:Pos} {Q:ad->ai->Prop} (I:Inv X pins σ H s) (hg:Gl X x) (hm:X.mg x=none) (hv:cu x=some u) (h:Q u s)
  (hn:x ≠ "__name__":=by decide) (hd:(x == ("__debug__" : Str))=false:=by decide):aD (aF X.prog X.w) X.A (eval (.Name x pos) X.env) Q E s:=by
 obtain⟨j,h1,h2⟩:=I.mod.blt;exact gW I.ok.kind hg (Calls.loadGlobal_builtin (by rw[I.ok.glob];exact I.mod.glob.keeps I.bk) hm (by rw[I.ok.blt];exact h1.keeps I.bk) ((h2 x hn).trans hv) h) hd
variable {a b:Expr} {ta tb:TE} {pos:Pos}
variable {tA tB':TT} {rest:List Expr}
def tAnd (t u:TT):TT:=fun σ H Q=>t σ H λc H1=>if c=true then u σ H1 Q else Q false H1
def tOr (t u:TT):TT:=fun σ H Q=>t σ H λc H1=>if c=true then Q true H1 else u σ H1 Q
def tNot (t:TT):TT:=fun σ H Q=>t σ H λc H1=>Q (!c) H1
theorem dJ4 (ha:PT X a tA):PW X (.BoolOp .And [a] pos) tA:=by
 intro j pins s σ H Q I h;refine isTrue_and (thn (ha pins s σ H Q I h) λc s1 e=>?_);cases c with
 | true=>exact isTrue_and_nil e
 | false=>exact e
theorem eX6 (ha:PT X a tA):PW X (.BoolOp .Or [a] pos) tA:=by
 intro j pins s σ H Q I h;refine isTrue_or (thn (ha pins s σ H Q I h) λc s1 e=>?_);cases c with
 | false=>exact isTrue_or_nil e
 | true=>exact e
theorem eX7 (ha:PT X a tA) (hb:PW X (.BoolOp .And (b::rest) pos) tB'):PW X (.BoolOp .And (a::b::rest) pos) (tAnd tA tB'):=by
 intro z pins s σ H Q I h;refine isTrue_and (thn (ha pins s σ H _ I h) λc s1 ⟨H1,q,j⟩=>?_);cases c with
 | true=>exact hb z pins s1 σ H1 Q q j
 | false=>exact⟨H1,q,j⟩
theorem fZk (ha:PT X a tA) (hb:PW X (.BoolOp .Or (b::rest) pos) tB'):PW X (.BoolOp .Or (a::b::rest) pos) (tOr tA tB'):=by
 intro z pins s σ H Q I h;refine isTrue_or (thn (ha pins s σ H _ I h) λc s1 ⟨H1,q,j⟩=>?_);cases c with
 | true=>exact⟨H1,q,j⟩
 | false=>exact hb z pins s1 σ H1 Q q j
theorem eX8 (ha:PT X a tA):PT X (.UnaryOp .Not a pos) (tNot tA):=by
 intro pins s σ H Q I h;exact isTrue_not (ha pins s σ H (λc H1=>Q (!c) H1) I h)
end
def SqL (K:ap) (H:Hp) (a:Addr) (xs:List V):Prop :=
 Rd H a (.lst xs) \/
  ∃ (o:Obj) (its:Array ad) (n:Nat),K.lookup a=some o/\o.cls=.type "list"/\o.dict=none/\o.data=.seq its n/\its.size<=sizeLine/\Vals xs its.toList
def SqT (K:ap) (H:Hp) (a:Addr) (xs:List V):Prop :=
 Rd H a (.tup xs) \/
  ∃ (o:Obj) (its:Array ad) (n:Nat),K.lookup a=some o/\o.cls=.type "tuple"/\o.dict=none/\o.data=.seq its n/\its.size<=sizeLine/\Vals xs its.toList
def absV:ad->Option V
 | .none=>some .non
 | .bool b=>some (.bl b)
 | .int i _=>some (.int i)
 | .str x _=>some (.str x)
 | .bytes b _=>some (.byt b)
 | .float b _=>some (.flt b)
 | .ref a=>some (.ref a)
 | .type n=>some (.ty n)
 | _=>none
theorem RelV.abs {x:V} {u:ad} (r:RelV x u):absV u=some x:=by
 cases x with
 | non=>cases r;rfl
 | bl _=>cases r;rfl
 | int _=>obtain⟨t,rfl⟩:=r;rfl
 | str _=>obtain⟨t,rfl⟩:=r;rfl
 | byt _=>obtain⟨t,rfl⟩:=r;rfl
 | flt _=>obtain⟨t,rfl⟩:=r;rfl
 | ref _=>cases r;rfl
 | ty _=>cases r;rfl
theorem RelV.inj {x y:V} {u:ad} (r:RelV x u) (q:RelV y u):x=y:=aR (r.abs.symm.trans q.abs)
theorem Vals.inj:∀ {xs ys:List V} {us:List ad},Vals xs us->Vals ys us->xs=ys
 | _,_,_,.nil,.nil=>rfl
 | _,_,_,.cons r t,.cons q j=>by rw[r.inj q,Vals.inj t j]
section
variable {X:Cx} {pins:List (Addr × Obj)} {σ:St} {H:Hp} {s:ai} {a:Addr} {xs ys:List V}
theorem SqL.of {K:ap} (h:H a=some (.lst xs)):SqL K H a xs:=.inl (.inl h)
theorem Inv.list (I:Inv X pins σ H s) (h:SqL X.K H a xs):∃ its:List ad,Vals xs its/\PlainL s.heap a its.toArray/\xs.length<=sizeLine:=by
 rcases h with h | ⟨o,its,n,q,B,hd,j,D,r⟩
 ·obtain⟨z,its,n,r,e⟩:=h.ok I.hok;exact⟨its,r,⟨_,n,e,rfl,rfl,rfl⟩,z⟩
 ·refine⟨its.toList,r,⟨o,n,I.kIn a o q,B,hd,by simpa using j⟩,?_⟩
  have e:=r.length;simp only[aK] at e;omega
theorem Inv.tuple (I:Inv X pins σ H s) (h:SqT X.K H a xs):∃ its:List ad,Vals xs its/\IsTup s.heap a its.toArray/\xs.length<=sizeLine:=by
 rcases h with h | ⟨o,its,n,q,B,_,j,D,r⟩
 ·obtain⟨z,its,r,p,_⟩:=h.ok I.hok;exact⟨its,r,p,z⟩
 ·refine⟨its.toList,r,⟨o,I.kIn a o q,B,n,by simpa using j⟩,?_⟩
  have e:=r.length;simp only[aK] at e;omega
theorem Inv.list_inj (I:Inv X pins σ H s) (h:SqL X.K H a xs) (h':SqL X.K H a ys):xs=ys:=by
 obtain⟨its,r,⟨o,n,e,_,_,d⟩,_⟩:=I.list h;obtain⟨its',q,⟨o',B,e',_,_,j⟩,_⟩:=I.list h';rw[e] at e';cases e';rw[d] at j;injection j with z _
 have:its=its':=by simpa using congrArg Array.toList z
 subst this;exact r.inj q
theorem Inv.tuple_inj (I:Inv X pins σ H s) (h:SqT X.K H a xs) (h':SqT X.K H a ys):xs=ys:=by
 obtain⟨its,r,⟨o,e,_,n,d⟩,_⟩:=I.tuple h;obtain⟨its',q,⟨o',e',_,B,j⟩,_⟩:=I.tuple h';rw[e] at e';cases e';rw[d] at j;injection j with z _
 have:its=its':=by simpa using congrArg Array.toList z
 subst this;exact r.inj q
end
abbrev Cx.wish (X:Cx) (E:ad->ai->Prop):Cx:={ X with xe:=E }
abbrev Cx.nox (X:Cx):Cx:=X.wish λ_ _=>False
theorem Cx.Ok.wish {X:Cx} (ok:X.Ok) (E:ad->ai->Prop):(X.wish E).Ok :=
 ⟨ok.mod,ok.kind,ok.glob,ok.blt,ok.above,ok.inj,ok.has,ok.cab,ok.hd,ok.frames,ok.gd,ok.stk,ok.exf,ok.bs,ok.bsz,ok.noex,ok.exfs,ok.funs,ok.frf⟩
theorem Cx.Ok.unwish {X:Cx} {E:ad->ai->Prop} (ok:(X.wish E).Ok):X.Ok :=
 ⟨ok.mod,ok.kind,ok.glob,ok.blt,ok.above,ok.inj,ok.has,ok.cab,ok.hd,ok.frames,ok.gd,ok.stk,ok.exf,ok.bs,ok.bsz,ok.noex,ok.exfs,ok.funs,ok.frf⟩
section
variable {X:Cx} {pins:List (Addr × Obj)} {σ:St} {H:Hp} {s:ai} {E:ad->ai->Prop}
theorem Inv.wish (I:Inv X pins σ H s) (E:ad->ai->Prop):Inv (X.wish E) pins σ H s:=⟨I.ok.wish E,I.os,I.bare,I.base,I.loc,I.cell,I.free,I.freeC,I.pin,I.hok,I.len⟩
theorem Inv.unwish (I:Inv (X.wish E) pins σ H s):Inv X pins σ H s:=⟨I.ok.unwish,I.os,I.bare,I.base,I.loc,I.cell,I.free,I.freeC,I.pin,I.hok,I.len⟩
theorem SP.unwish {D:Ends} {f:Flow} {s':ai} (h:SP (X.wish E) pins D f s'):SP X pins D f s':=by
 cases f with
 | next=>obtain⟨σ',H',I,q⟩:=h;exact⟨σ',H',I.unwish,q⟩
 | brk=>obtain⟨σ',H',I,q⟩:=h;exact⟨σ',H',I.unwish,q⟩
 | cont=>obtain⟨σ',H',I,q⟩:=h;exact⟨σ',H',I.unwish,q⟩
 | ret u=>obtain⟨v,σ',H',I,r,q⟩:=h;exact⟨v,σ',H',I.unwish,r,q⟩
theorem PSs.nox {st:List Stmt} {t:TS} (h:PSs X.nox st t):PSs X st t:=λpins s σ H D I hw =>
 c6 (h pins s σ H D (I.wish _) hw) (λ_ _ q=>q.unwish) λ_ _ z=>dM z
end
section
variable {X:Cx} {st:Stmt} {rest:List Stmt} {t u:TS} {e:Expr} {te:TE} {pos:Pos}
def fZl:TS:=λD σ H=>D.nx σ H
def tSeq (t u:TS):TS:=λD σ H=>t { D with nx:=u D } σ H
theorem dJ5:PSs X [] fZl:=λ_ _ σ H _ I h=>wpAny_execs_nil ⟨σ,H,I,h⟩
theorem cQ2 (h1:PS X st t) (h2:PSs X rest u):PSs X (st::rest) (tSeq t u):=by
 intro pins s σ H D I h;refine wpAny_execs_cons (thn (h1 pins s σ H { D with nx:=u D } I h) λf s1 q=>?_)
 cases f with
 | next =>
  obtain⟨σ',H',j,q⟩:=q;exact h2 pins s1 σ' H' D j q
 | ret v=>exact q
 | brk=>exact q
 | cont=>exact q
theorem dJ6 (h1:PS X st t):PSs X [st] t:=by
 intro pins s σ H D I h;refine wpAny_execs_cons (thn (h1 pins s σ H D I h) λf s1 q=>?_);cases f with
 | next=>exact wpAny_execs_nil q
 | ret v=>exact q
 | brk=>exact q
 | cont=>exact q
theorem Inv.quiet {pins:List (Addr × Obj)} {σ:St} {H:Hp} {s:ai} (I:Inv X pins σ H s):interactive X.env=false:=by simp[interactive,I.ok.kind]
def fZm (te:TE):TS:=λD σ H=>te σ H λ_ H1=>D.nx σ H1
theorem dJ7 (he:PE X e te) (hs:iG e none pos.line X.env=pure false:=by rfl):PS X (.Expr e pos) (fZm te):=by
 intro pins s σ H D I h;exact wpAny_Expr_any (thn (he pins s σ H _ I h) λv s1 ⟨x,H1,q,z,j⟩=>⟨σ,H1,q,j⟩) I.quiet hs
def tRet (te:TE):TS:=λD σ H=>te σ H D.rt
theorem eX9 (he:PE X e te):PS X (.Return (some e) pos) (tRet te):=by
 intro pins s σ H D I h;exact wpAny_Return_some (thn (he pins s σ H _ I h) λv s1 ⟨x,H1,z,j,q⟩=>⟨x,σ,H1,z,j,q⟩)
def tIfS (c:TT) (t u:TS):TS:=λD σ H=>c σ H λb H1=>if b=true then t D σ H1 else u D σ H1
theorem fZn {c:Expr} {a b:List Stmt} {tc:TT} (hc:PT X c tc) (ha:PSs X a t) (hb:PSs X b u):PS X (.If c a b pos) (tIfS tc t u):=by
 intro pins s σ H D I h;refine wpAny_If (thn (hc pins s σ H _ I h) λd s1 ⟨H1,q,j⟩=>?_);cases d with
 | true=>exact ha pins s1 σ H1 D q j
 | false=>exact hb pins s1 σ H1 D q j
end
abbrev TG:=V->St->Hp->(St->Hp->Prop)->Prop
abbrev TGs:=List V->St->Hp->(St->Hp->Prop)->Prop
def PG (X:Cx) (target:Expr) (t:TG):Prop :=
 ∀ (pins:List (Addr × Obj)) (s:ai) (σ:St) (H:Hp) (v:V) (u:ad) (Q:St->Hp->Prop),Inv X pins σ H s->RelV v u->t v σ H Q ->
  aD (aF X.prog X.w) X.A (i5 target X.env u) (λ_ s'=>∃ σ' H',Inv X pins σ' H' s'/\Q σ' H') X.xe s
def PGs (X:Cx) (ts:List Expr) (t:TGs):Prop :=
 ∀ (pins:List (Addr × Obj)) (s:ai) (σ:St) (H:Hp) (vs:List V) (us:List ad) (Q:St->Hp->Prop),Inv X pins σ H s->Vals vs us->t vs σ H Q ->
  aD (aF X.prog X.w) X.A (assignInOrder ((dy ts X.env).map (·.2)) us) (λ_ s'=>∃ σ' H',Inv X pins σ' H' s'/\Q σ' H') X.xe s
abbrev TSet:=V->V->V->Hp->(Hp->Prop)->Prop
def PSet (X:Cx) (t:TSet):Prop :=
 ∀ (pins:List (Addr × Obj)) (s:ai) (σ:St) (H:Hp) (o i v:V) (ov iv u:ad) (Q:Hp->Prop),Inv X pins σ H s->RelV o ov->RelV i iv->RelV v u->t o i v H Q ->
  aD (aF X.prog X.w) X.A (setItem ov iv u) (λ_ s'=>∃ H',Inv X pins σ H' s'/\Q H') X.xe s
section
variable {X:Cx} {pos:Pos}
def bJ2 (i:Nat):TG:=λv σ H Q=>Q (σ.set i (some v)) H
theorem aQb {i:Nat} {x:Str} (hN:X.N.Nodup) (hi:X.N[i]?=some x) (hx:Loc X.env.scope x) (hf:X.fn x=true\/X.env.scope.names.lookup x=some .local:=by first | exact .inl rfl | exact .inr rfl | assumption):PG X (.Name x pos) (bJ2 i):=by
 intro pins s σ H v u Q I r h;exact wpAny_assign_Name (store_ok I hN hi hx r (λs' j=>⟨_,H,j,h⟩) hf)
def gNil:TGs:=λvs σ H Q=>vs=[]/\Q σ H
def dJ8 (t:TG) (u:TGs):TGs:=λvs σ H Q=>∃ v r,vs=v::r/\t v σ H fun σ' H'=>u r σ' H' Q
theorem bJ3:PGs X [] gNil:=by
 intro pins s σ H j us Q I r h;obtain⟨e,h⟩:=h;subst e;cases r;exact assignInOrder_nil ⟨σ,H,I,h⟩
theorem aXg {e:Expr} {es:List Expr} {t:TG} {u:TGs} (h1:PG X e t) (h2:PGs X es u)
  (hs:(dy (e::es) X.env).map (·.2)=i5 e X.env::(dy es X.env).map (·.2):=by rfl):PGs X (e::es) (dJ8 t u):=by
 intro pins s σ H B us Q I r h;obtain⟨v,D,e1,h⟩:=h;subst e1;cases r with
 | cons r j =>
  rw[hs];refine assignInOrder_cons (thn (h1 pins s σ H _ _ _ I r h) λ_ s1 ⟨σ1,H1,z,q⟩=>?_);exact h2 pins s1 σ1 H1 _ _ Q z j q
def gTup (K:ap) (n:Nat) (t:TGs):TG:=λv σ H Q=>∃ a xs,v=.ref a/\SqT K H a xs/\xs.length=n/\t xs σ H Q
theorem dXa {es:List Expr} {k:Nat} {t:TGs} {n:Nat} (hc:X.calm=true) (h:PGs X es t)
  (hn:(dy es X.env).length=n:=by rfl) (hst:(dy es X.env).findIdx? (·.1)=none:=by rfl):PG X (.Tuple es k pos) (gTup X.K n t):=by
 intro pins s σ H v u Q I r hw;obtain⟨a,xs,e1,B,hl,hw⟩:=hw;subst e1;cases r;obtain⟨its,j,z,G⟩:=I.tuple B;refine assign_Tuple_tuple (I.ok.hd hc) z (by simp[hn,<- hl,j.length]) hst λh' q=>?_
 have D:Inv X pins σ H { s with heap:=h' }:=I.kept (t':=s.toks) λb o e=>q b o (Nat.ne_of_lt (az e)) e
 exact h pins _ σ H xs _ Q D (by simpa using j) hw
def gSub (to ti:TE) (t:TSet):TG:=λv σ H Q=>to σ H λo H1=>ti σ H1 λi H2=>t o i v H2 λH3=>Q σ H3
theorem eXa {o i:Expr} {to ti:TE} {t:TSet} (ho:PE X o to) (hi:PE X i ti) (hs:PSet X t)
  (ha:∀ v,i5 (.Subscript o i pos) X.env v=(do
   let ov <- fG [v] (eval o X.env)
   let iv <- fG [v,ov] (eval i X.env)
   gO pos
   fG [v,ov,iv] (setItem ov iv v)
   release [v,ov,iv] []):=by intro _;rfl):PG X (.Subscript o i pos) (gSub to ti t):=by
 intro pins s σ H v u Q I r h;rw[ha];refine aa (bh (thn (ho pins s σ H _ I h) λov s1 ⟨x,H1,L,q,D⟩=>?_));refine aa (bh (thn (hi pins s1 σ H1 _ L D) λiv s2 ⟨y,H2,J,j,B⟩=>?_));refine aa (fA (aa (bh (thn (hs pins s2 σ H2 x y v ov iv u _ J q j r B) λ_ s3 ⟨N,G,z⟩=>?_))));exact wpAny_release ⟨σ,N,G,z⟩
def tAsg (te:TE) (g:TG):TS:=λD σ H=>te σ H λx H1=>g x σ H1 D.nx
theorem eXb {tg e:Expr} {te:TE} {g:TG} (he:PE X e te) (hg:PG X tg g) (hs:swapsWithSole [tg] e pos.line X.env=pure false:=by rfl) (hw:swappedStores [tg] e X.env=pure none:=by rfl)
  (h1:(dy [tg] X.env).map (·.2)=[i5 tg X.env]:=by rfl):PS X (.Assign [tg] e pos) (tAsg te g):=by
 intro pins s σ H D I h;refine wpAny_Assign_stores (thn (he pins s σ H _ I h) λv s1 ⟨x,H1,B,j,z⟩=>?_) hs hw;rw[h1];exact thn (hg pins s1 σ H1 x v _ B j z) λ_ s2 q=>q
theorem eXc {i:Nat} {x:Str} {e:Expr} {te:TE} {pos':Pos} (hN:X.N.Nodup) (hi:X.N[i]?=some x) (hx:Loc X.env.scope x) (he:PE X e te) (hs:iG e (some (.Name x pos')) pos.line X.env=pure false:=by rfl) (hf:X.fn x=true\/X.env.scope.names.lookup x=some .local:=by first | exact .inl rfl | exact .inr rfl | assumption) :
  PS X (.Assign [.Name x pos'] e pos) (tAsg te (bJ2 i)):=by
 intro pins s σ H D I h;refine wpAny_Assign_Name (thn (he pins s σ H _ I h) λv s1 ⟨y,H1,B,j,q⟩=>?_) hs;exact store_ok B hN hi hx j (λs2 z=>⟨_,H1,z,q⟩) hf
end
structure It where
 go:Nat->Hp->Prop
 yld:Nat->Hp->V->Hp->Prop
 stop:Nat->Hp->Prop
def FpOk (X:Cx) (pins:List (Addr × Obj)) (H:Hp) (b:Addr):Prop :=
 H b=none/\b≠X.env.locals/\b∉X.fs/\(b∈X.ex\/X.s₀.heap.objs.size<=b)/\(∀ x c,X.env.cells.lookup x=some c->c≠b)/\∀ p∈X.pn++pins,p.1≠b
theorem Inv.fpOk {X:Cx} {pins:List (Addr × Obj)} {σ:St} {H H':Hp} {s:ai} {b:Addr} (I:Inv X pins σ H s) (hb:s.heap.objs.size<=b) (hn:H' b=none):FpOk X pins H' b:=by
 refine⟨hn,Nat.ne_of_gt (Nat.lt_of_lt_of_le I.lt hb),I.nofs hb,.inr (Nat.le_trans I.sz hb),λx c e z=>?_,λp j z=>?_⟩
 ·obtain⟨v,q⟩:=I.cell x c e;exact absurd (Nat.lt_of_lt_of_le q.lt (by rw[z];exact hb)) (Nat.lt_irrefl _)
 ·exact absurd (Nat.lt_of_lt_of_le (az (I.pin p j).1) (by rw[z];exact hb)) (Nat.lt_irrefl _)
structure Turn (P:aC) (w:aO) (K:ap) (tg:Expr) (J:It) (fp:List Addr) (it:Addr) (tn:Nat->a9->Prop):Prop where
 mem:it∈fp
 obj:∀ i h,tn i h->∀ b∈fp,∃ o,h.get? b=some o/\∀ v,o.data≠.cell v
 keep:∀ i h h',tn i h->(∀ b∈fp,∀ o,h.get? b=some o->h'.get? b=some o)->tn i h'
 item:∀ (X:Cx),X.prog=P->X.w=w->X.K=K->X.calm=true->∀ (i:Nat) (pins:List (Addr × Obj)) (s:ai) (σ:St) (H:Hp) (E:ad->ai->Prop),Inv X pins σ H s->(∀ b∈fp,FpOk X pins H b)->tn i s.heap->J.go i H ->
  aD (aF P w) X.A (eV (.ref it)) (λr s1=>∃ u,r=some u /\
   aD (aF P w) X.A (eS tg (.ref it) u) (λ_ s2=>∃ x H',Inv X pins σ H' s2/\RelV x u/\J.yld i H x H'/\tn (i + 1) s2.heap/\∀ b∈fp,H' b=none) E s1) E s
 done:∀ (X:Cx),X.prog=P->X.w=w->X.K=K->X.calm=true->∀ (i:Nat) (pins:List (Addr × Obj)) (s:ai) (σ:St) (H:Hp) (E:ad->ai->Prop),Inv X pins σ H s->(∀ b∈fp,FpOk X pins H b)->tn i s.heap->J.stop i H ->
  aD (aF P w) X.A (eV (.ref it)) (λr s1=>r=none/\Inv X pins σ H s1) E s
 self:∀ (A:aY) (i:Nat) (s:ai) (Q:ad->ai->Prop) (E:ad->ai->Prop),tn i s.heap->Q (.ref it) s->aD (aF P w) A (pyIter (.ref it)) Q E s
abbrev TI:=St->Hp->(It->Hp->Prop)->Prop
def PIE (X:Cx) (pins:List (Addr × Obj)) (σ:St) (tg:Expr) (R:It->Hp->Prop) (itv:ad) (s2:ai):Prop :=
 ∃ (it:Addr) (fp:List Addr) (tn:Nat->a9->Prop) (J:It) (H':Hp),itv=.ref it/\Inv X pins σ H' s2/\Turn X.prog X.w X.K tg J fp it tn/\tn 0 s2.heap/\(∀ b∈fp,FpOk X pins H' b)/\R J H'
def PI (X:Cx) (tg iter:Expr) (wi:TI):Prop :=
 ∀ (pins:List (Addr × Obj)) (s:ai) (σ:St) (H:Hp) (R:It->Hp->Prop),Inv X pins σ H s->wi σ H R ->
  aD (aF X.prog X.w) X.A (eval iter X.env) (λv s1=>aD (aF X.prog X.w) X.A (pyIter v) (PIE X pins σ tg R) X.xe s1) X.xe s
theorem dQi {M : Model} {A : aY} {E : ad -> ai -> Prop} {s : ai} {tg : Expr} {it : Addr} {u : ad} {o : Obj} {n : String} {vs : Array ad} {Q : Unit -> ai -> Prop} (ho : s.heap.get? it = some o) (hc : o.cls = .type n) (hd : o.data = .fields vs)
    (hn : ["enumerate", "zip", "dict_itemiterator", "dict_reverseitemiterator", "odict_iterator", "itertools.zip_longest", "itertools.pairwise"].contains n = false) (hQ : Q () s) : aD M A (eS tg (.ref it) u) Q E s := by
  unfold eS;cases tg <;> first
    | exact ae hQ
    | (cases u <;> first
        | exact ae hQ
        | (refine aa (wpAny_load ho ?_)
           rw [hc, hd];show aD M A (if (["enumerate", "zip", "dict_itemiterator", "dict_reverseitemiterator", "odict_iterator", "itertools.zip_longest", "itertools.pairwise"].contains n && vs[0]? == some (fw _)) = true then _ else _) Q E s
           rw [if_neg (by intro h; rw [hn, Bool.false_and] at h; cases h)]
           exact ae hQ))
def Itl (K:ap) (a:Addr):It :=
 ⟨λi H=>∃ xs x,SqL K H a xs/\xs[i]?=some x,λi H x H'=>H'=H/\∀ xs,SqL K H a xs->xs[i]?=some x,λi H=>∃ xs,SqL K H a xs/\xs.length<=i⟩
def Itt (K:ap) (a:Addr):It :=
 ⟨λi H=>∃ xs x,SqT K H a xs/\xs[i]?=some x,λi H x H'=>H'=H/\∀ xs,SqT K H a xs->xs[i]?=some x,λi H=>∃ xs,SqT K H a xs/\xs.length<=i⟩
def Itr (lo:Int) (n:Nat):It:=⟨λi _=>i < n,λi H x H'=>H'=H/\x=.int (lo + i),λi _=>n<=i⟩
theorem cZy {P:aC} {w:aO} {K:ap} {tg:Expr} (a it:Addr):Turn P w K tg (Itl K a) [it] it (λi h=>h.IsListIter it a i) where
 mem:=by simp
 obj:=λi h st b j=>by
  have e:b=it:=by simpa using j
  subst e;obtain⟨o,e,c,d⟩:=st;exact⟨o,e,λv z=>by rw[d] at z;cases z⟩
 keep:=λi h h' st k=>st.at λo e=>k it (by simp) o e
 item:=by
  intro X L hw N R i pins s σ H E I hf st J;subst L hw N;obtain⟨xs,x,B,G⟩:=J;obtain⟨its,D,p,Z⟩:=I.list B;obtain⟨u,hu,Y⟩:=D.get G;obtain⟨f0,f1,f2,O,f4,f5⟩:=hf it (by simp)
  refine fT st p.isList (x:=u) (by simpa using hu) λh' q U=>?_
  have I1:Inv X pins σ H { s with heap:=h' }:=I.turned (t':=s.toks) (λb o j e=>(U.2 b j).trans e) f0 f1 O f4 f5
  obtain⟨o,e,c,d⟩:=id q;exact⟨u,rfl,dQi (s:={ s with heap:=h' }) e c d (by decide) ⟨x,H,I1,Y,⟨rfl,λys hy=>by rw[I.list_inj hy B];exact G⟩,q,λb j=>(hf b j).1⟩⟩
 done:=by
  intro X L hw N R i pins s σ H E I hf st J;subst L hw N;obtain⟨xs,B,G⟩:=J;obtain⟨its,D,p,Z⟩:=I.list B;obtain⟨f0,f1,f2,O,f4,f5⟩:=hf it (by simp)
  have hl:=D.length;exact gh (I.ok.hd R) st p.isList (by simp;omega) λh' eb=>⟨rfl,I.turned (t':=s.toks) (λb o j e=>eb b o j e) f0 f1 O f4 f5⟩
 self:=λ_ _ _ _ _ st h=>wpAny_pyIter_listiter st h
theorem cZ7 {P:aC} {w:aO} {K:ap} {tg:Expr} (a it:Addr):Turn P w K tg (Itt K a) [it] it (λi h=>h.IsTupleIter it a i) where
 mem:=by simp
 obj:=λi h st b j=>by
  have e:b=it:=by simpa using j
  subst e;obtain⟨o,e,c,d⟩:=st;exact⟨o,e,λv z=>by rw[d] at z;cases z⟩
 keep:=λi h h' st k=>st.at λo e=>k it (by simp) o e
 item:=by
  intro X L hw N R i pins s σ H E I hf st J;subst L hw N;obtain⟨xs,x,B,G⟩:=J;obtain⟨its,D,p,Z⟩:=I.tuple B;obtain⟨u,hu,Y⟩:=D.get G;obtain⟨f0,f1,f2,O,f4,f5⟩:=hf it (by simp)
  refine wpAny_pyNext_tuple_item st (show s.heap.IsTuple a its.toArray from p) (x:=u) (by simpa using hu) λh' q U=>?_
  have I1:Inv X pins σ H { s with heap:=h' }:=I.turned (t':=s.toks) (λb o j e=>(U.2 b j).trans e) f0 f1 O f4 f5
  obtain⟨o,e,c,d⟩:=id q;exact⟨u,rfl,dQi (s:={ s with heap:=h' }) e c d (by decide) ⟨x,H,I1,Y,⟨rfl,λys hy=>by rw[I.tuple_inj hy B];exact G⟩,q,λb j=>(hf b j).1⟩⟩
 done:=by
  intro X L hw N R i pins s σ H E I hf st J;subst L hw N;obtain⟨xs,B,G⟩:=J;obtain⟨its,D,p,Z⟩:=I.tuple B;obtain⟨f0,f1,f2,O,f4,f5⟩:=hf it (by simp)
  have hl:=D.length;exact wpAny_pyNext_tuple_end (I.ok.hd R) st (show s.heap.IsTuple a its.toArray from p) (by simp;omega) λh' eb=>⟨rfl,I.turned (t':=s.toks) (λb o j e=>eb b o j e) f0 f1 O f4 f5⟩
 self:=λ_ _ _ _ _ st h=>wpAny_pyIter_tupleiter st h
theorem cZ8 {P:aC} {w:aO} {K:ap} {tg:Expr} (it:Addr) (lo:Int) (n:Nat):Turn P w K tg (Itr lo n) [it] it (λi h=>IsRangeIter h it (lo + (i:Nat) * 1) ((n:Int) - (i:Nat)) 1) where
 mem:=by simp
 obj:=λi h st b j=>by
  have e:b=it:=by simpa using j
  subst e;exact⟨_,st,λv z=>by
   have z':Data.fields _=Data.cell v:=z;cases z'⟩
 keep:=λi h h' st k=>k it (by simp) _ st
 item:=by
  intro X G hw J D i pins s σ H E I hf st B;subst G hw J;obtain⟨f0,f1,f2,L,f4,f5⟩:=hf it (by simp)
  have W:=Walks.range (prog:=X.prog) (w:=X.w) (I.ok.hd D) it lo 1 n;refine W.item i s _ _ B st λv h' N R q O=>?_;obtain⟨t,rfl⟩:=R;have Y:Inv X pins σ H { s with heap:=h',toks:=N }:=I.turned (λb o j e=>O b o (by simpa using j) e) f0 f1 L f4 f5
  refine⟨_,rfl,dQi (s:={ s with heap:=h',toks:=N }) (n := "range_iterator") q rfl rfl (by decide) ⟨.int (lo + i),H,Y,⟨t,?_⟩,⟨rfl,rfl⟩,q,λb j=>(hf b j).1⟩⟩
  rw[Int.mul_one]
 done:=by
  intro X G hw J D i pins s σ H E I hf st B;subst G hw J;obtain⟨f0,f1,f2,L,f4,f5⟩:=hf it (by simp)
  exact wpAny_pyNext_range_end (I.ok.hd D) st (by have:n<=i:=B;omega) λh' U=>⟨rfl,I.turned (t':=s.toks) (λb o j e=>U b o j e) f0 f1 L f4 f5⟩
 self:=λ_ _ _ _ _ st h=>wpAny_pyIter_rangeiter st h
section
variable {X:Cx} {tg:Expr}
theorem dQj {pins:List (Addr × Obj)} {σ:St} {H:Hp} {s:ai} {R:It->Hp->Prop} {E:ad->ai->Prop} {lo hi:Int} {t u v:Tok} {tk:Nat} (I:Inv X pins σ H s) (h1:-(2 ^ 62)<=lo) (h2:lo < 2 ^ 62) (h3:-(2 ^ 62)<=hi) (h4:hi < 2 ^ 62)
  (q:R (Itr lo (hi - lo).toNat) H):aD (aF X.prog X.w) X.A (pyIter (.ref s.heap.objs.size)) (PIE X pins σ tg R) E { s with heap:=s.heap.push { cls:=.type "range",data:=.fields #[.int lo t,.int hi u,.int 1 v] },toks:=tk }:=by
 refine wpAny_pyIter_range (IsRange.new ..) (small_one h1 h2 h3 h4) ?_;have j:Inv X pins σ H { s with heap:=s.heap.push { cls:=.type "range",data:=.fields #[.int lo t,.int hi u,.int 1 v] },toks:=tk }:=I.kept λb o e=>ag _ e
 refine⟨(s.heap.push { cls:=.type "range",data:=.fields #[.int lo t,.int hi u,.int 1 v] }).objs.size,[(s.heap.push { cls:=.type "range",data:=.fields #[.int lo t,.int hi u,.int 1 v] }).objs.size],_,_,H,rfl,
  j.kept (t':=tk) λb o e=>ag _ e,cZ8 _ lo (hi - lo).toNat,?_,λb z=>?_,q⟩
 ·have e1:lo + ((0:Nat):Int) * 1=lo:=by simp
  have e2:(((hi - lo).toNat:Nat):Int) - ((0:Nat):Int)=cg.Range.rangeSize lo hi 1:=by rw[rangeSize_one];split <;> omega
  show IsRangeIter _ _ (lo + ((0:Nat):Int) * 1) ((((hi - lo).toNat:Nat):Int) - ((0:Nat):Int)) 1;rw[e1,e2];exact ax _ rfl
 ·have e:b=(s.heap.push { cls:=.type "range",data:=.fields #[.int lo t,.int hi u,.int 1 v] }).objs.size:=by simpa using z
  subst e;exact j.fpOk (Nat.le_refl _) (j.hok.fresh (Nat.le_refl _))
def fZo (ta:TA):TI:=fun σ H R=>ta σ H λvs H1=>∃ j:Int,vs=[.int j]/\-(2 ^ 62)<=j/\j < 2 ^ 62/\R (Itr 0 j.toNat) H1
theorem cZz {a:Expr} {ta:TA} {p pos:Pos} (hg:Gl X "range") (hm:X.mg "range" = none) (ha:PA X [a] ta) (hs:ay [a] X.env=[(false,eval a X.env)]:=by rfl):PI X tg (.Call (.Name "range" p) [a] [] pos) (fZo ta):=by
 intro pins s σ H R I h;refine Call_ (ld_blt I hg hm boot_range (dO (thn (ha pos pins s σ H _ I h) λus s1 ⟨G,H1,D,r1,z⟩=>?_) hs rfl));obtain⟨j,e,z,B,q⟩:=z;subst e;cases r1 with
 | cons r rr =>
  cases rr;obtain⟨t,rfl⟩:=r;exact call_range_1 (dQj D (by omega) (by omega) z B (by simpa using q))
def tFor (wi:TI) (g:TG) (tb:TS):TS:=λD σ H=>wi σ H λJ H1=>∃ W:Nat->Nat->St->Hp->Prop,(∃ m,W 0 m σ H1)/\∀ i m σ H,W i m σ H ->
 (J.stop i H/\D.nx σ H)\/(J.go i H/\∃ N:St->Hp->Prop,(∀ σ' H',N σ' H'->∃ m',m' < m/\W (i + 1) m' σ' H')/\∀ x H',J.yld i H x H'->g x σ H' fun σ2 H2=>tb { D with nx:=N,ct:=N,bk:=D.nx } σ2 H2)
def bZz (fp:List Addr) (h:a9):List (Addr × Obj):=fp.filterMap λb=>(h.get? b).map λo=>(b,o)
theorem aX5 {fp:List Addr} {h:a9} {b:Addr} {o:Obj} (hb:b∈fp) (e:h.get? b=some o):(b,o)∈bZz fp h:=eP.mpr ⟨b,hb,by rw[e];rfl⟩
theorem cX0 {fp:List Addr} {h:a9} {p:Addr × Obj} (hp:p∈bZz fp h):p.1∈fp/\h.get? p.1=some p.2:=by
 obtain⟨b,j,e⟩:=eP.mp hp;cases q:h.get? b with
 | none=>rw[q] at e;cases e
 | some o =>
  rw[q] at e;have z:(b,o)=p:=aR e;subst z;exact⟨j,q⟩
theorem Inv.pinned {pins:List (Addr × Obj)} {σ:St} {H:Hp} {s:ai} {fp:List Addr} (I:Inv X pins σ H s) (hf:∀ b∈fp,FpOk X pins H b) (ho:∀ b∈fp,∃ o,s.heap.get? b=some o/\∀ v,o.data≠.cell v):Inv X (pins++bZz fp s.heap) σ H s :=
 I.pins_of λp q=>(ar.mp q).elim (λz=>I.pin p (aU _ z)) λz=>by
  obtain⟨j,e⟩:=cX0 z;obtain⟨f0,f1,f2,_⟩:=hf p.1 j;obtain⟨o,e',d⟩:=ho p.1 j;rw[e] at e';cases e';exact⟨e,f0,f1,f2,d⟩
theorem Inv.unpinned {pins pl:List (Addr × Obj)} {σ:St} {H:Hp} {s:ai} (I:Inv X (pins++pl) σ H s):Inv X pins σ H s:=I.pins_of λp j=>I.pin p (aU _ (bZ _ j))
theorem eXd {iter:Expr} {body:List Stmt} {wi:TI} {g:TG} {tb:TS} {pos:Pos} (hp:PassesOwn (aF X.prog X.w) X.A X.env X.xe) (hc:X.calm=true) (hi:PI X tg iter wi) (hg:PG X tg g) (hb:PSs X body tb)
  (hs:∀ x,cQ iter X.env x=pure x:=by intro _;rfl):PS X (.For tg iter body [] pos) (tFor wi g tb):=by
 intro pins s σ H D I h;refine wpAny_For (thn (hi pins s σ H _ I h) λv s1 h1=>thn h1 λitv s2 h2=>?_) hs;obtain⟨it,U,tn,J,H2,e,I2,T,Z,f2,W,⟨m0,w0⟩,turn⟩:=h2;subst e;have j:∀ {H':Hp},(∀ b∈U,H' b=none)->∀ b∈U,FpOk X pins H' b:=λhn b hb=>⟨hn b hb,(f2 b hb).2⟩;refine codeAny_forLoop_any (λn s'=>∃ i σ' H',Inv X pins σ' H' s'/\tn i s'.heap/\(∀ b∈U,H' b=none)/\W i n σ' H') ?_ m0 ⟨0,σ,H2,I2,Z,λb hb=>(f2 b hb).1,w0⟩;rintro n s3 ⟨i,σ3,Y,I3,L,R,w3⟩;rcases turn i n σ3 Y w3 with⟨stop,qn⟩ | ⟨go,N,hN,step⟩
 ·refine fH hp (thn (T.done X rfl rfl rfl hc i pins s3 σ3 Y X.xe I3 (j R) L stop) λr s4 ⟨hr,I4⟩=>?_);subst hr;exact wpAny_execs_nil ⟨σ3,Y,I4,qn⟩
 ·refine fH hp (thn (T.item X rfl rfl rfl hc i pins s3 σ3 Y X.xe I3 (j R) L go) λr s4 ⟨u,hr,h4⟩=>?_);subst hr;refine fH hp (thn h4 λ_ s5 ⟨x,H5,I5,r5,y5,G,fr5⟩=>?_);have I5':=I5.pinned (j fr5) (T.obj _ _ G);refine fH hp (thn (hg _ s5 σ3 H5 x u _ I5' r5 (step x H5 y5)) λ_ s6 ⟨σ6,H6,I6,q6⟩=>?_);refine fH hp (thn (hb _ s6 σ6 H6 _ I6 q6) λf s7 B=>?_);have again:∀ {σ7:St} {z:Hp},Inv X (pins++bZz U s5.heap) σ7 z s7->N σ7 z->∃ m,m < n/\∃ i σ' H',Inv X pins σ' H' s7/\tn i s7.heap/\(∀ b∈U,H' b=none)/\W i m σ' H':=λ{σ7 z} q O=>by
   obtain⟨m',hm,w7⟩:=hN σ7 z O;refine⟨m',hm,i + 1,σ7,z,q.unpinned,T.keep _ _ _ G λb hb o e=>(q.pin (b,o) (aU _ (aU _ (aX5 hb e)))).1,λb hb=>?_,w7⟩;obtain⟨o,e,d⟩:=T.obj _ _ G b hb;exact(q.pin (b,o) (aU _ (aU _ (aX5 hb e)))).2.1
  cases f with
  | next=>obtain⟨σ7,z,q,O⟩:=B;exact again q O
  | cont=>obtain⟨σ7,z,q,O⟩:=B;exact again q O
  | brk=>obtain⟨σ7,z,q,B⟩:=B;exact⟨σ7,z,q.unpinned,B⟩
  | ret v=>obtain⟨x7,σ7,z,q,r7,B⟩:=B;exact⟨x7,σ7,z,q.unpinned,r7,B⟩
end
abbrev R2:=V->V->Hp->VK->Prop
def OpR (X:Cx) (f:ad->ad->Sem ad) (r:R2):Prop :=
 ∀ (pins:List (Addr × Obj)) (s:ai) (σ:St) (H:Hp) (x y:V) (v u:ad) (Q:VK),Inv X pins σ H s->RelV x v->RelV y u->r x y H Q ->
  aD (aF X.prog X.w) X.A (f v u) (EP X pins σ Q) X.xe s
def CallR (X:Cx) (f:ad) (r:List V->Hp->VK->Prop):Prop :=
 ∀ (pins:List (Addr × Obj)) (s:ai) (σ:St) (H:Hp) (xs:List V) (us:List ad) (Q:VK),Inv X pins σ H s->Vals xs us->r xs H Q ->
  aD (aF X.prog X.w) X.A (call f us) (EP X pins σ Q) X.xe s
def TruR (X:Cx) (r:V->Hp->(Bool->Hp->Prop)->Prop):Prop :=
 ∀ (pins:List (Addr × Obj)) (s:ai) (σ:St) (H:Hp) (x:V) (v:ad) (Q:Bool->Hp->Prop),Inv X pins σ H s->RelV x v->r x H Q ->
  aD (aF X.prog X.w) X.A (truthy v) (TP X pins σ Q) X.xe s
def tOp (r:R2) (ta tb:TE):TE:=fun σ H Q=>ta σ H λx H1=>tb σ H1 λy H2=>r x y H2 Q
def rI (C:Int->Int->Prop) (g:Int->Int->V):R2:=λx y H Q=>∃ i j,x=.int i/\y=.int j/\C i j/\Q (g i j) H
def rI0 (g:Int->Int->V):R2:=λx y H Q=>∃ i j,x=.int i/\y=.int j/\Q (g i j) H
section
variable {X:Cx} {a b c:Expr} {ta tb tc:TE} {pos:Pos}
theorem binT (ha:PE X a ta) (hb:PE X b tb) {pins:List (Addr × Obj)} {s:ai} {σ:St} {H:Hp} {R:V->V->Hp->Prop} (I:Inv X pins σ H s)
  (h:ta σ H λx H1=>tb σ H1 λy H2=>R x y H2) {Q:ad->ai->Prop} {f:ad->ad->Sem ad}
  (hf:∀ v u s2 x y H2,Inv X pins σ H2 s2->RelV x v->RelV y u->R x y H2->aD (aF X.prog X.w) X.A (f v u) Q X.xe s2) :
  aD (aF X.prog X.w) X.A (eval a X.env) (λv s₁=>aD (aF X.prog X.w) X.A (eval b X.env) (λu s₂=>aD (aF X.prog X.w) X.A (f v u) Q X.xe s₂) X.xe s₁) X.xe s:=by
 refine thn (ha pins s σ H _ I h) λv s1 ⟨x,H1,G,q,B⟩=>?_;refine thn (hb pins s1 σ H1 _ G B) λu s2 ⟨y,H2,D,j,z⟩=>?_;exact hf v u s2 x y H2 D q j z
theorem fZp {op:Operator} {r:R2} (ho:OpR X (eF op) r) (ha:PE X a ta) (hb:PE X b tb):PE X (.BinOp a op b pos) (tOp r ta tb):=by
 intro pins s σ H Q I h;exact wpAny_BinOp (binT ha hb I h λv u s2 x y H2 B z j q=>ho pins s2 σ H2 x y v u Q B z j q)
theorem opI {f:ad->ad->Sem ad} {C:Int->Int->Prop} {g:Int->Int->Int}
  (rule:∀ (i j:Int) (t u:Tok) (s:ai) (Q:ad->ai->Prop) (E:ad->ai->Prop),C i j->Q (.int (g i j) s.toks) { s with toks:=s.toks + 1 }->aD (aF X.prog X.w) X.A (f (.int i t) (.int j u)) Q E s) :
  OpR X f (rI C λi j=>.int (g i j)):=by
 intro pins s σ H x y v u Q I D B h;obtain⟨i,j,rfl,rfl,G,q⟩:=h;obtain⟨t,rfl⟩:=D;obtain⟨z,rfl⟩:=B;exact rule i j t z s _ _ G ⟨.int (g i j),H,I.tok _,⟨_,rfl⟩,q⟩
theorem opI0 {f:ad->ad->Sem ad} {g:Int->Int->Int}
  (rule:∀ (i j:Int) (t u:Tok) (s:ai) (Q:ad->ai->Prop) (E:ad->ai->Prop),Q (.int (g i j) s.toks) { s with toks:=s.toks + 1 }->aD (aF X.prog X.w) X.A (f (.int i t) (.int j u)) Q E s) :
  OpR X f (rI0 λi j=>.int (g i j)):=by
 intro pins s σ H x y v u Q I D B h;obtain⟨i,j,rfl,rfl,q⟩:=h;obtain⟨t,rfl⟩:=D;obtain⟨z,rfl⟩:=B;exact rule i j t z s _ _ ⟨.int (g i j),H,I.tok _,⟨_,rfl⟩,q⟩
theorem opB0 {f:ad->ad->Sem ad} {g:Int->Int->Bool}
  (rule:∀ (i j:Int) (t u:Tok) (s:ai) (Q:ad->ai->Prop) (E:ad->ai->Prop),Q (.bool (g i j)) s->aD (aF X.prog X.w) X.A (f (.int i t) (.int j u)) Q E s) :
  OpR X f (rI0 λi j=>.bl (g i j)):=by
 intro pins s σ H x y v u Q I D B h;obtain⟨i,j,rfl,rfl,q⟩:=h;obtain⟨t,rfl⟩:=D;obtain⟨z,rfl⟩:=B;exact rule i j t z s _ _ ⟨.bl (g i j),H,I,rfl,q⟩
def CDiv (i j:Int):Prop:=0 < j/\j < 1073741824
def CPow (i j:Int):Prop:=0<=j/\j<=1000000/\i.natAbs < 2 ^ 64
def CMul (i j:Int):Prop:=(-(2 ^ 64) < i/\i < 2 ^ 64)\/(-(2 ^ 64) < j/\j < 2 ^ 64)
theorem CMul.ok {i j:Int} (h:CMul i j):IntMulOk i j:=by
 rcases h with⟨h1,h2⟩ | ⟨h1,h2⟩
 ·exact .of_left (intBits_le_64 h1 h2)
 ·exact .of_right (intBits_le_64 h1 h2)
theorem op_add:OpR X (eF .Add) (rI0 λi j=>.int (i + j)):=opI0 λ_ _ _ _ _ _ _ q=>add_int q
theorem eXe:OpR X (eF .Mult) (rI CMul λi j=>.int (i * j)):=opI λ_ _ _ _ _ _ _ z q=>mul_int q z.ok
theorem dJ9:OpR X (eF .FloorDiv) (rI CDiv λi j=>.int (i / j)):=opI λi j _ _ _ _ _ z q=>by
 have h1:(0:Int) < j:=z.1;have h2:j < 1073741824:=z.2;exact floordiv_int (by omega) (by rw[Int.fdiv_eq_ediv_of_nonneg i (by omega)];exact q) (.inl (PyProof.noPylong_small (by omega)))
theorem eXf:OpR X (eF .Mod) (rI (λ_ j=>0 < j) λi j=>.int (i % j)):=opI λi j _ _ _ _ _ z q=>by
 have h1:(0:Int) < j:=z;exact mod_int' (by omega) (by rw[Int.fmod_eq_emod_of_nonneg i (by omega)];exact q)
theorem eXg:OpR X (eF .Pow) (rI CPow λi j=>.int (i ^ j.toNat)):=opI λ_ _ _ _ _ _ _ z q=>pow_int_small z.1 z.2.1 z.2.2 q
end
section
variable {X:Cx} {a b c:Expr} {ta tb tc:TE} {pos:Pos}
theorem eXh {pins:List (Addr × Obj)} {σ:St} {H:Hp} {s:ai} {Q:VK} {k k':Bool} (I:Inv X pins σ H s) (q:Q (.bl k) H) (e:k=k'):EP X pins σ Q (.bool k') s:=by
 subst e;exact⟨.bl k,H,I,rfl,q⟩
theorem op_lt:OpR X (dl .Lt) (rI0 λi j=>.bl (decide (i < j))):=opB0 λ_ _ _ _ _ _ _ q=>lt_int q
theorem fZq:OpR X (dl .Gt) (rI0 λi j=>.bl (decide (j < i))):=opB0 λ_ _ _ _ _ _ _ q=>gt_int q
theorem fZr:OpR X (dl .GtE) (rI0 λi j=>.bl (decide (j<=i))):=opB0 λ_ _ _ _ _ _ _ q=>ge_int q
theorem op_lt_str:OpR X (dl .Lt) (λx y H Q=>∃ i j,x=.str i/\y=.str j/\Q (.bl (decide (i.cps.toList < j.cps.toList))) H):=by
 intro pins s σ H x y v u Q I B z h;obtain⟨i,j,rfl,rfl,q⟩:=h;obtain⟨t,rfl⟩:=B;obtain⟨D,rfl⟩:=z;exact lt_str (eXh I q rfl)
theorem OpR.or {f:ad->ad->Sem ad} {r r':R2} (h:OpR X f r) (h':OpR X f r'):OpR X f (λx y H Q=>r x y H Q\/r' x y H Q):=by
 intro pins s σ H x y v u Q I z j q;rcases q with q | q
 ·exact h pins s σ H x y v u Q I z j q
 ·exact h' pins s σ H x y v u Q I z j q
theorem nomark (b:Expr) {op:CmpOp} (h:op≠.In:=by decide) (h2:op≠.NotIn:=by decide):dU op b=false:=by
 have e1:(op == CmpOp.In)=false:=by cases op <;> first | rfl | exact absurd rfl h
 have e2:(op == CmpOp.NotIn)=false:=by cases op <;> first | rfl | exact absurd rfl h2
 cases b <;> simp[dU,e1,e2]
theorem dJa {op:CmpOp} {r:R2} (ho:OpR X (dl op) r) (ha:PE X a ta) (hb:PE X b tb) (hm:dU op b=false):PE X (.Compare a [op] [b] pos) (tOp r ta tb):=by
 intro pins s σ H Q I h;exact wpAny_Compare1 (binT ha hb I h λv u s2 x y H2 B z j q=>ho pins s2 σ H2 x y v u Q B z j q) hm
def eXi (t:TE):TT:=fun σ H Q=>t σ H λx H'=>∃ k,x=.bl k/\Q k H'
theorem dJb {op:CmpOp} {r:R2} (ho:OpR X (dl op) r) (ha:PE X a ta) (hb:PE X b tb) (hm:dU op b=false):PT X (.Compare a [op] [b] pos) (eXi (tOp r ta tb)):=by
 intro pins s σ H Q I h;refine wpAny_isTrue_Compare1 (thn (ha pins s σ H _ I h) λv s1 ⟨x,H1,N,q,G⟩=>thn (hb pins s1 σ H1 _ N G) λu s2 ⟨y,H2,L,j,D⟩ =>
  thn (ho pins s2 σ H2 x y v u _ L q j D) λc s3 ⟨z,O,J,r3,k,e,B⟩=>?_) hm
 subst e;cases r3;exact eX ⟨O,J,B⟩
def TruV (K:ap) (x:V) (H:Hp) (k:Bool):Prop :=
 match x with
 | .non=>k=false
 | .bl b=>k=b
 | .int i=>k=(i != 0)
 | .str y=>y.length<=sizeLine/\k=((y.length:Int) != 0)
 | .byt y=>y.size<=sizeLine/\k=((y.size:Int) != 0)
 | .ref p=>(∃ xs,SqL K H p xs/\k=!xs.isEmpty)\/(∃ xs,SqT K H p xs/\k=!xs.isEmpty)\/∃ kvs,H p=some (.dK kvs)/\k=!kvs.isEmpty
 | _=>False
theorem cZ9 {κ:Type} {kvs:List (κ × V)} {vs:List (κ × ad)} (r:KV kvs vs):(!vs.isEmpty)=!kvs.isEmpty:=by
 cases r <;> rfl
theorem bQm {xs:List V} {its:List ad} (r:Vals xs its):(!its.toArray.isEmpty)=!xs.isEmpty:=by
 cases r <;> simp
theorem bQn:(sizeLine:Nat) < 2 ^ 63:=by rw[be];decide
theorem eXj:TruR X (λx H Q=>∃ k,TruV X.K x H k/\Q k H):=by
 intro pins s σ H x v Q I rx h;obtain⟨k,e,q⟩:=h;have hl:=bQn;have J:sizeLine=16777216:=be;cases x with
 | non =>
  cases rx;have j:k=false:=e;subst j;exact truthy_none ⟨H,I,q⟩
 | bl b =>
  cases rx;have j:k=b:=e;subst j;exact eX ⟨H,I,q⟩
 | int i =>
  obtain⟨t,rfl⟩:=rx;have j:k=(i != 0):=e;subst j;exact PySem.P.truthy_int ⟨H,I,q⟩
 | str y =>
  obtain⟨t,rfl⟩:=rx;obtain⟨D,j⟩:y.length<=sizeLine/\k=((y.length:Int) != 0):=e;subst j;exact PySem.P.truthy_str (by omega) ⟨H,I.tok _,q⟩
 | byt y =>
  obtain⟨t,rfl⟩:=rx;obtain⟨D,j⟩:y.size<=sizeLine/\k=((y.size:Int) != 0):=e;subst j;exact PySem.W.truthy_bytes (by omega) ⟨H,I.tok _,q⟩
 | ref p =>
  cases rx;have j:(∃ xs,SqL X.K H p xs/\k=!xs.isEmpty)\/(∃ xs,SqT X.K H p xs/\k=!xs.isEmpty)\/∃ kvs,H p=some (.dK kvs)/\k=!kvs.isEmpty:=e;rcases j with⟨xs,z,j⟩ | ⟨xs,z,j⟩ | ⟨kvs,z,j⟩
  ·subst j;obtain⟨its,r,pl,B⟩:=I.list z;have hlen:=r.length;exact wpAny_truthy_list pl.isList (by simp only[am];omega) ⟨H,I.tok _,by rw[bQm r];exact q⟩
  ·subst j;obtain⟨its,r,pl,B⟩:=I.tuple z;have hlen:=r.length;exact truthy_tuple pl (by simp only[am];omega) ⟨H,I.tok _,by rw[bQm r];exact q⟩
  ·subst j;obtain⟨B,G,vs,r,m⟩:kvs.length<=sizeLine/\(p == fN)=false/\∃ vs,KV kvs vs/\s.heap.DictOf (aQk X.prog X.w) p vs:=I.hok p _ z;have hlen:kvs.length=vs.length:=b6 r;exact wpAny_truthy_dict G m (by omega) ⟨H,I.tok _,by rw[cZ9 r];exact q⟩
 | _=>exact(show False from e).elim
theorem dQk (ha:PE X a ta) (he:∀ whole,isTrue a X.env whole=(do let v <- whole;gO a.pos;fG [v] (truthy v))) :
  PT X a (fun σ H Q=>ta σ H λx H'=>∃ k,TruV X.K x H' k/\Q k H'):=by
 intro pins s σ H Q I h;exact isTrue_plain (thn (ha pins s σ H _ I h) λv s1 ⟨x,H1,z,j,q⟩=>eXj pins s1 σ H1 x v Q z j q) (he _)
theorem op_add_str:OpR X (eF .Add) (λx y H Q=>∃ i j,x=.str i/\y=.str j/\i.length + j.length<=sizeLine/\Q (.str (i++j)) H):=by
 intro pins s σ H x y v u Q I D B h;obtain⟨i,j,rfl,rfl,G,q⟩:=h;obtain⟨t,rfl⟩:=D;obtain⟨z,rfl⟩:=B;exact add_str (λz J=>⟨.str (i++j),H,I.tok _,⟨_,rfl⟩,q⟩) G
theorem aX9 {x:V} {us:List ad} (r:Vals [x] us):∃ u,us=[u]/\RelV x u:=by
 cases r with
 | cons j r2=>cases r2;exact⟨_,rfl,j⟩
theorem eXk {x y:V} {us:List ad} (r:Vals [x,y] us):∃ u w',us=[u,w']/\RelV x u/\RelV y w':=by
 cases r with
 | cons q r2 =>
  cases r2 with
  | cons j r4=>cases r4;exact⟨_,_,rfl,q,j⟩
theorem dQl:CallR X (.builtin "abs") (λxs H Q=>∃ i,xs=[.int i]/\Q (.int (if i < 0 then -i else i)) H):=by
 intro pins s σ H xs us Q I r h;obtain⟨i,rfl,q⟩:=h;obtain⟨u,rfl,t,rfl⟩:=aX9 r;exact call_abs_int λu j=>⟨.int (if i < 0 then -i else i),H,I.tok _,⟨_,rfl⟩,q⟩
theorem cX1 (hc:X.calm=true):CallR X (.builtin "min") (λxs H Q=>∃ i j,xs=[.int i,.int j]/\Q (.int (if j < i then j else i)) H):=by
 intro pins s σ H xs us Q I r h;obtain⟨i,j,rfl,q⟩:=h;obtain⟨u,B,rfl,⟨t,rfl⟩,⟨G,rfl⟩⟩:=eXk r;refine min_two_ints (I.ok.hd hc) λh' D k=>⟨_,H,I.kept k,?_,q⟩
 by_cases z:j < i
 ·rw[if_pos z,if_pos z];exact⟨_,rfl⟩
 ·rw[if_neg z,if_neg z];exact⟨_,rfl⟩
def LenV (K:ap) (x:V) (H:Hp) (n:Nat):Prop :=
 match x with
 | .str y=>y.length<=sizeLine/\n=y.length
 | .byt y=>y.size<=sizeLine/\n=y.size
 | .ref p=>(∃ xs,SqL K H p xs/\n=xs.length)\/∃ xs,SqT K H p xs/\n=xs.length
 | _=>False
theorem dQm:CallR X (.builtin "len") (λxs H Q=>∃ x n,xs=[x]/\LenV X.K x H n/\Q (.int n) H):=by
 intro pins s σ H xs us Q I r h;obtain⟨x,n,rfl,e,q⟩:=h;obtain⟨u,rfl,rx⟩:=aX9 r;have hl:=bQn;have J:sizeLine=16777216:=be;cases x with
 | str y =>
  obtain⟨t,rfl⟩:=rx;obtain⟨G,j⟩:y.length<=sizeLine/\n=y.length:=e;subst j;exact len_str (by omega) ⟨.int _,H,I.tok _,⟨_,rfl⟩,q⟩
 | byt y =>
  obtain⟨t,rfl⟩:=rx;obtain⟨G,j⟩:y.size<=sizeLine/\n=y.size:=e;subst j;exact PySem.W.len_bytes (by omega) ⟨.int _,H,I.tok _,⟨_,rfl⟩,q⟩
 | ref p =>
  cases rx;have j:(∃ xs,SqL X.K H p xs/\n=xs.length)\/∃ xs,SqT X.K H p xs/\n=xs.length:=e;rcases j with⟨xs,B,j⟩ | ⟨xs,B,j⟩
  ·subst j;obtain⟨its,z,pl,D⟩:=I.list B;have hlen:=z.length;exact Calls.call_len_list pl.isList (by simp only[am];omega) ⟨.int xs.length,H,I.tok _,⟨_,by simp only[am];rw[hlen]⟩,q⟩
  ·subst j;obtain⟨its,z,pl,D⟩:=I.tuple B;have hlen:=z.length;exact len_tuple pl (by simp only[am];omega) ⟨.int xs.length,H,I.tok _,⟨_,by simp only[am];rw[hlen]⟩,q⟩
 | _=>exact(show False from e).elim
end
theorem RelO.some_of {v:V} {o:Option ad} (r:RelO (some v) o):∃ u,o=some u/\RelV v u:=by
 cases o with
 | none=>exact(show False from r).elim
 | some u=>exact⟨u,rfl,r⟩
structure Room (k:Nat) (A:aY):Prop where
 hd:A.handled=none
 dp:A.depth + 3 * k + 5 < recursionLimit
 un:A.units + 16 * k + 200 < cx
theorem Room.mono {j k:Nat} {A:aY} (r:Room k A) (h:j<=k):Room j A:=⟨r.hd,by have:=r.dp;omega,by have:=r.un;omega⟩
theorem Room.deeper {k:Nat} {A:aY} (r:Room (k + 1) A) (env:Env):Room k (A.deeper env) :=
 ⟨r.hd,by have:=r.dp;show A.depth + 1 + 3 * k + 5 < _;omega,by have:=r.un;show A.units + 3 + 16 * k + 200 < _;omega⟩
theorem Room.depth {k:Nat} {A:aY} (r:Room k A):A.depth < recursionLimit:=by have:=r.dp;omega
theorem Room.units {k:Nat} {A:aY} (r:Room k A):A.units + 64 < cx:=by have:=r.un;omega
theorem Room.units0 {k:Nat} {A:aY} (r:Room k A):A.units < cx:=by have:=r.un;omega
def tNil:TA:=λ_ H Q=>Q [] H
def fZs (ta:TE) (tr:TA):TA:=fun σ H Q=>ta σ H λx H1=>tr σ H1 λxs H2=>Q (x::xs) H2
section
variable {X:Cx} {e:Expr} {es:List Expr} {te:TE} {t:TA} {pos:Pos}
theorem bX0:PA X [] tNil:=λ_ _ _ _ H Q I h=>Calls.spliced_nil ⟨[],H,I,.nil,h⟩
theorem aJl (ha:PE X e te) (hr:PA X es t) (hs:ay (e::es) X.env=(false,eval e X.env)::ay es X.env:=by rfl):PA X (e::es) (fZs te t):=by
 intro pos pins s σ H Q I h;rw[hs];show aD _ _ (spliced ((false,eval e X.env)::cD pos (ay es X.env))) _ _ s;refine Calls.spliced_cons (thn (ha pins s σ H _ I h) λu s1 ⟨x,H1,G,q,B⟩=>?_);exact thn (hr pos pins s1 σ H1 _ G B) λus s2 ⟨xs,H2,D,j,z⟩=>⟨x::xs,H2,D,.cons q j,z⟩
def tTup (t:TA):TE:=fun σ H Q=>t σ H λxs H1=>xs.length<=sizeLine/\∀ p,H1 p=none->Q (.ref p) (upd H1 p (.tup xs))
def tLst (t:TA):TE:=fun σ H Q=>t σ H λxs H1=>xs.length<=sizeLine/\∀ p,H1 p=none->Q (.ref p) (upd H1 p (.lst xs))
theorem eXl {x1} (h:PA X es t):PE X (.Tuple es x1 pos) (tTup t):=by
 intro pins s σ H Q I B;refine wpAny_Tuple_spliced (thn (h pos pins s σ H _ I B) λus s1 ⟨xs,H1,j,r,z,q⟩=>⟨by rw[<- r.length];exact z,?_⟩)
 have hf:H1 s1.heap.objs.size=none:=j.hok.fresh (Nat.le_refl _);refine⟨.ref s1.heap.objs.size,upd H1 s1.heap.objs.size (.tup xs),j.laid (t':=s1.toks) (λb u e=>ag _ e) (Nat.le_refl _) ?_,rfl,q _ hf⟩;exact⟨z,us,r,⟨_,ax _ rfl,rfl,_,rfl⟩,cQ1⟩
theorem eXm (h:PA X es t):PE X (.List es pos) (tLst t):=by
 intro pins s σ H Q I B;refine wpAny_List_spliced (thn (h pos pins s σ H _ I B) λus s1 ⟨xs,H1,j,r,z,q⟩=>⟨by rw[<- r.length];exact z,?_⟩)
 have hf:H1 s1.heap.objs.size=none:=j.hok.fresh (Nat.le_refl _);refine⟨.ref s1.heap.objs.size,upd H1 s1.heap.objs.size (.lst xs),j.laid (t':=s1.toks) (λb u e=>ag _ e) (Nat.le_refl _) ?_,rfl,q _ hf⟩;exact⟨z,us,0,r,ax _ rfl⟩
end
abbrev Sp:=List V->Hp->VK->XK->Prop
abbrev CXT:=List Env->Hp->ai->XK->ad->ai->Prop
structure Env0 (P:aC) (w:aO) (K:ap) (mg:Str->Option ad) (base:a9) (A:aY) (outer:List Env) (s:ai) (H:Hp):Prop where
 frames:A.frames=some outer
 gd:A.guards=some []
 mod:Mod K mg base
 bs:∀ b o,base.get? b=some o->s.heap.get? b=some o/\H b=none
 bsz:base.objs.size<=s.heap.objs.size
 funs:s.heap.FunFrames base outer
 frf:∀ b∈frs outer,H b=none
 hok:HOk P w H s.heap
 bare:io s.gens
def CE (outer:List Env) (P:aC) (w:aO) (H:Hp) (s:ai) (Q:VK) (u:ad) (s':ai):Prop :=
 ∃ v H',s'.os=s.os/\io s'.gens/\Un (frs outer) [] H H' s.heap s'.heap/\HOk P w H' s'.heap/\RelV v u/\Q v H'
def CR (CX:CXT) (outer:List Env) (P:aC) (w:aO) (H:Hp) (s:ai) (Q:VK) (E:XK) (r:Result) (s':ai):Prop :=
 match r with
 | .ok (.ret u)=>CE outer P w H s Q u s'
 | .ok _=>False
 | .error e=>CX outer H s E e s'
structure FnOk (P:aC) (w:aO) (K:ap) (mg:Str->Option ad) (base:a9) (CX:CXT) (k:Nat) (f:Addr) (fd:dw) (ps:List Str) (sp:Sp):Prop where
 len:∀ vs H Q E,sp vs H Q E->vs.length=ps.length
 run:∀ (A:aY) (outer:List Env) (s:ai) (H:Hp) (args:Args) (us:List ad) (vs:List V) (Q:VK) (E:XK),Room k A->Env0 P w K mg base A outer s H->BindsTo s fd args (ps.zip us)->Vals vs us->sp vs H Q E ->
  fj (aF P w) A (.call (.ref f) args) (CR CX outer P w H s Q E) s
theorem FnOk.mono {P:aC} {w:aO} {K:ap} {mg:Str->Option ad} {base:a9} {CX:CXT} {j k:Nat} {f:Addr} {fd:dw} {ps:List Str} {sp:Sp} (F:FnOk P w K mg base CX j f fd ps sp) (h:j<=k) :
  FnOk P w K mg base CX k f fd ps sp:=⟨F.len,λA outer s H args us q Q E z=>F.run A outer s H args us q Q E (z.mono h)⟩
section
variable {X:Cx} {pins:List (Addr × Obj)} {σ:St} {H:Hp} {s s':ai}
theorem Inv.env0 (I:Inv X pins σ H s):Env0 X.prog X.w X.K X.mg X.base X.A X.stack s H :=
 ⟨I.ok.frames,I.ok.gd,I.ok.mod,I.bs,Nat.le_trans I.ok.bsz I.sz,I.stack,I.stkFree,I.hok,I.bare⟩
theorem Inv.after {Q:VK} {u:ad} (I:Inv X pins σ H s) (h:CE X.stack X.prog X.w H s Q u s'):EP X pins σ Q u s':=by
 obtain⟨v,H',os,bare,un,hok,r,q⟩:=h;obtain⟨B,g,d,t,j⟩:=s';obtain rfl:j=s.os:=os;exact⟨v,H',I.call (h':=B) (g':=g) (d':=d) (t':=t) (ch:=[]) un hok bare (λb z=>absurd z (by simp)),r,q⟩
end
def eXn (sp:Sp) (dvs:List V) (E:XK) (t:TA):TE:=fun σ H Q=>t σ H λvs H1=>sp (vs++dvs) H1 Q E
def Binds (K:ap) (fd:dw) (ps:List Str) (ds:List ad):Prop :=
 ∀ (s:ai) (us:List ad),K.In s.heap->(us++ds).length=ps.length->BindsTo s fd ⟨us,[]⟩ (ps.zip (us++ds))
theorem Binds.all {K:ap} {fd:dw} {ps:List Str} (h:∀ us:List ad,us.length=ps.length->bindArgs fd ⟨us,[]⟩=pure (ps.zip us)):Binds K fd ps []:=λs us _ hl=>by
 rw[ci] at hl ⊢;exact .of_eq (h us hl)
def cX2 (CX:CXT) (X:Cx) (E:XK):Prop:=∀ (pins:List (Addr × Obj)) (σ:St) (H:Hp) (s:ai) (e:ad) (s':ai),Inv X pins σ H s->CX X.stack H s E e s'->X.xe e s'
section
variable {X:Cx} {CX:CXT} {k:Nat} {f C:Addr} {fd:dw} {ps:List Str} {sp:Sp} {dvs:List V} {ds:List ad} {E:XK} {x m:Str} {p pos apos:Pos} {e o:Expr} {es:List Expr} {ta:TE} {t:TA}
theorem eXo {pins:List (Addr × Obj)} {σ:St} {H:Hp} {s:ai} {Q:VK} {us:List ad} {vs:List V} (F:FnOk X.prog X.w X.K X.mg X.base CX k f fd ps sp) (hr:Room k X.A) (hb:Binds X.K fd ps ds) (hd:Vals dvs ds) (hx:cX2 CX X E)
  (I:Inv X pins σ H s) (r:Vals vs us) (h:sp (vs++dvs) H Q E):aD (aF X.prog X.w) X.A (call (.ref f) us) (EP X pins σ Q) X.xe s:=by
 have q:Vals (vs++dvs) (us++ds):=r.append hd;have hl:(us++ds).length=ps.length:=by rw[<- q.length];exact F.len _ _ _ _ h
 refine wpAny_call (fk (F.run X.A X.stack s H ⟨us,[]⟩ (us++ds) (vs++dvs) Q E hr I.env0 (hb s us I.kIn hl) q h) λr s' j=>?_);cases r with
 | error e=>exact hx pins σ H s e s' I j
 | ok fl =>
  cases fl with
  | ret u=>exact I.after j
  | next=>exact dM j
  | brk=>exact dM j
  | cont=>exact dM j
theorem dJc (F:FnOk X.prog X.w X.K X.mg X.base CX k f fd ps sp) (hr:Room k X.A) (hg:Gl X x) (hm:X.mg x=some (.ref f)) (hk:e7 X.K (.ref f)=true) (hb:Binds X.K fd ps ds) (hd:Vals dvs ds) (hx:cX2 CX X E)
  (ha:PA X (e::es) t) (hdb:(x == ("__debug__" : Str))=false:=by decide) (he:ay (e::es) X.env=(false,eval e X.env)::ay es X.env:=by rfl) (hpl:(cD pos (ay es X.env)).any (·.1)=false:=by rfl) :
  PE X (.Call (.Name x p) (e::es) [] pos) (eXn sp dvs E t):=by
 intro pins s σ H Q I h;refine gX (ld_glob I hg hm ?_ hdb);refine PySem.W.callWith_K (h₀:=X.base) I.ok.mod.kin hk (thn (ha pos pins s σ H _ I h) λus s1 ⟨z,H1,j,r,q⟩=>⟨j.kIn,?_⟩) he hpl;exact eXo F hr hb hd hx j r q
end
structure FnScope (N P:List Str) (sc:Scope):Prop where
 kind:sc.kind=.function
 co:sc.isCoroutine=false
 gen:sc.isGenerator=false
 nd:N.Nodup
 pre:N.take P.length=P
 par:∀ x∈P,sc.names.lookup x=some .local\/sc.names.lookup x=some .cell
 nofree:∀ y∈sc.names,y.2≠.free
theorem bX1 {kindOf:Str->Option eT} {x:Str}:∀ {binds:List (Str × ad)} {m:Str->Option ad},(∀ v,(x,v)∉binds)->bindL kindOf binds m x=m x
 | [],_,_=>rfl
 | (n,v)::r,m,h=>by
  unfold bindL;rw[bX1 λw hw=>h w (aq _ hw)]
  split
  ·have:x≠n:=by rintro rfl;exact h v ao
   simp[this]
  ·rfl
theorem bindC_out {kindOf:Str->Option eT} {x:Str}:∀ {binds:List (Str × ad)} {m:Str->Option ad},(∀ v,(x,v)∉binds)->bindC kindOf binds m x=m x
 | [],_,_=>rfl
 | (n,v)::r,m,h=>by
  unfold bindC;rw[bindC_out λw hw=>h w (aq _ hw)]
  split
  ·rfl
  ·have:x≠n:=by rintro rfl;exact h v ao
   simp[this]
theorem bindL_get {kindOf:Str->Option eT} {x:Str} {v:ad}:∀ {P:List Str} {vs:List ad} {i:Nat} {m:Str->Option ad},P.Nodup->P[i]?=some x->vs[i]?=some v->kindOf x=some .local ->
  bindL kindOf (P.zip vs) m x=some v
 | [],_,_,_,_,h,_,_=>by simp at h
 | _::_,[],_,_,_,_,h,_=>by simp at h
 | p::P,w::vs,0,m,nd,h1,h2,j=>by
  simp at h1 h2;subst h1;subst h2;show bindL kindOf ((p,w)::P.zip vs) m p=_;unfold bindL;rw[bX1 λv q=>(bt.mp nd).1 (jd q).1,if_pos j];simp
 | p::P,w::vs,i + 1,m,nd,h1,h2,j=>by
  show bindL kindOf ((p,w)::P.zip vs) m x=_;unfold bindL;exact bindL_get (i:=i) (bt.mp nd).2 (by simpa using h1) (by simpa using h2) j
theorem bX2 {kindOf:Str->Option eT} {x:Str} {v:ad}:∀ {P:List Str} {vs:List ad} {i:Nat} {m:Str->Option ad},P.Nodup->P[i]?=some x->vs[i]?=some v->kindOf x≠some .local ->
  bindC kindOf (P.zip vs) m x=some v
 | [],_,_,_,_,h,_,_=>by simp at h
 | _::_,[],_,_,_,_,h,_=>by simp at h
 | p::P,w::vs,0,m,nd,h1,h2,j=>by
  simp at h1 h2;subst h1;subst h2;show bindC kindOf ((p,w)::P.zip vs) m p=_;unfold bindC;rw[bindC_out λv q=>(bt.mp nd).1 (jd q).1,if_neg j];simp
 | p::P,w::vs,i + 1,m,nd,h1,h2,j=>by
  show bindC kindOf ((p,w)::P.zip vs) m x=_;unfold bindC;exact bX2 (i:=i) (bt.mp nd).2 (by simpa using h1) (by simpa using h2) j
def start (N:List Str) (vs:List V):St:=vs.map some++gY (N.length - vs.length) none
def cxOf (CX:CXT) (P:aC) (w:aO) (K:ap) (mg:Str->Option ad) (base:a9) (N:List Str) (qual:Str) (scope:Scope) (f:Addr) (cd:ad) (A:aY) (outer:List Env) (s:ai) (H:Hp) (E:XK):Cx where
 prog:=P
 w:=w
 K:=K
 mg:=mg
 base:=base
 A:=A.deeper (iu qual scope s.heap.objs.size f cd)
 N:=N
 s₀:=s
 H₀:=H
 env:=iu qual scope s.heap.objs.size f cd
 outer:=outer
 stack:=iu qual scope s.heap.objs.size f cd::outer
 ex:=[]
 calm:=true
 fn:=λ_=>true
 pn:=[]
 xe:=λe s'=>aD (aF P w) (A.deeper (iu qual scope s.heap.objs.size f cd)) (leaving (iu qual scope s.heap.objs.size f cd) e) (λ_ s''=>CX outer H s E e s'') (λe' s''=>CX outer H s E e' s'') s'
theorem cQ3 {sc:Scope} {n:Nat} {x:Str} (h:sc.names.lookup x=some .cell):∃ c,(fQ n sc.names []).lookup x=some c:=by
 have q:=i6 sc.names n [] (.inl h);exact cy.mp q
theorem cX3 {CX:CXT} {P:aC} {w:aO} {K:ap} {mg:Str->Option ad} {base:a9} {N ps:List Str} {qual:Str} {scope:Scope} {f:Addr} {cd:ad} {A:aY} {outer:List Env} {s s1:ai} {H:Hp} {E:XK} {us:List ad} {vs:List V}
  (S:FnScope N ps scope) (hd:A.handled=none) (e0:Env0 P w K mg base A outer s H) (hl:vs.length=ps.length) (r:Vals vs us)
  (x:InCallC s s.heap.objs.size (bindL (iu qual scope s.heap.objs.size f cd).kindOf (ps.zip us) λ_=>none) (fQ (s.heap.objs.size + 1) scope.names []) (bindC (iu qual scope s.heap.objs.size f cd).kindOf (ps.zip us) λ_=>none) s1) :
  Inv (cxOf CX P w K mg base N qual scope f cd A outer s H E) [] (start N vs) H s1:=by
 have R:ps.length<=N.length:=by have:=congrArg e8 S.pre;rw[aQ] at this;omega
 obtain⟨h1,Y,rfl,L⟩:=x.done;have j:∀ b:Addr,b∉(cxOf CX P w K mg base N qual scope f cd A outer s H E).ex:=λb z=>absurd (show b∈([]:List Addr) from z) (by simp)
 refine⟨⟨e0.mod,S.kind,rfl,rfl,Nat.le_refl _,λy z c h1 h2=>?_,λy B=>?_,λy c _ h=>?_,λ_=>hd,aY.frames_deeper e0.frames,e0.gd,.inr ⟨rfl,rfl⟩,λb z=>absurd z (j b),e0.bs,e0.bsz,λb _ _=>j b,λb z=>absurd z (j b),e0.funs,e0.frf⟩,
  rfl,e0.bare,Un.kept L,⟨_,x.toInCall.ns,λi y v h1 h2 Z=>?_⟩,λy c h=>⟨_,x.cell y c h⟩,e0.hok.fresh (Nat.le_refl _),λy c h=>?_,λp G=>absurd (show p∈([]:List (Addr × Obj)) from G) (by simp),e0.hok.kept L,?_⟩
 ·exact name_of_addr x.apart (ew h1) (ew h2)
 ·have B:scope.names.lookup y=some .cell\/scope.names.lookup y=some .free:=B;rcases B with B | B
  ·exact cQ3 B
  ·exact absurd rfl (S.nofree _ (ew B))
 ·exact Nat.le_of_lt (x.above y c (ew h))
 ·have hi:i < vs.length:=by
   unfold start at h2
   by_cases hi:i < vs.length
   ·exact hi
   ·rw[bU (by simpa using hi)] at h2
    rw[List.getElem?_replicate] at h2
    split at h2 <;> cases h2
  have U:vs[i]?=some v:=by
   unfold start at h2;rw[du (by simpa using hi),ba] at h2
   cases e:vs[i]? with
   | none=>rw[e] at h2;cases h2
   | some a=>rw[e] at h2;cases h2;rfl
  obtain⟨u,J,O⟩:=r.get U;have G:ps[i]?=some y:=by
   rw[<- S.pre,fB (by omega)];exact h1
  have D:ps.Nodup:=by rw[<- S.pre];exact S.nd.sublist (fU _ _)
  refine⟨u,O,?_⟩;rcases S.par y (ak G) with k | k
  ·exact .inl ⟨k,bindL_get D G J k⟩
  ·obtain⟨c,e⟩:=cQ3 (n:=s.heap.objs.size + 1) k;refine .inr ⟨.inl k,c,e,?_⟩;have q:=x.cell y c e;rw[bX2 D G J (by show scope.names.lookup y≠_;rw[k];decide)] at q
   exact q
 ·exact e0.hok.fresh (Nat.le_of_lt (x.above y c (ew h)))
 ·unfold start;show _=N.length;rw[av,aj,List.length_replicate];omega
theorem fZt {CX:CXT} {P:aC} {w:aO} {K:ap} {mg:Str->Option ad} {base:a9} {k:Nat} {f:Addr} {name qual:Str} {params:Arguments} {body:List Stmt} {scope:Scope} {dV kV doc pm cdv ct oc:ad} {an od:Option Addr}
  {osl:Array (Option ad)} {N ps:List Str} {sp:Sp} (lk:K.lookup f=some ⟨oc,od,.func (d5 name qual params body scope dV kV doc pm an cdv ct),osl⟩) (hcd:fV K cdv qual=true) (S:FnScope N ps scope)
  (len:∀ vs H Q E,sp vs H Q E->vs.length=ps.length)
  (hbody:∀ (A:aY) (outer:List Env) (s:ai) (H:Hp) (vs:List V) (Q:VK) (E:XK),Room k (A.deeper (iu qual scope s.heap.objs.size f cdv))->sp vs H Q E ->
   ∃ t,PSs (cxOf CX P w K mg base N qual scope f cdv A outer s H E) body t/\t { nx:=λ_ H'=>Q .non H',rt:=Q } (start N vs) H) :
  FnOk P w K mg base CX (k + 1) f (d5 name qual params body scope dV kV doc pm an cdv ct) ps sp:=by
 refine⟨len,λA outer s H args us vs Q E L D Z r B=>?_⟩;have hl:=len _ _ _ _ B;have O:K.In s.heap:=D.mod.kin.keeps λb o e=>(D.bs b o e).1;have lim:s.heap.NoLimit:=D.mod.nolimit.keeps λb o e=>(D.bs b o e).1;have j:∀ y∈ps.zip us,scope.names.lookup y.1=some .local\/(scope.names.lookup y.1=some .cell/\((fQ (s.heap.objs.size + 1) scope.names []).lookup y.1).isSome=true):=λ⟨n,v⟩ R=>by
  rcases S.par n (jd R).1 with q | q
  ·exact .inl q
  ·exact .inr ⟨q,i6 _ _ _ (.inl q)⟩
 refine codeAny_call_function L.depth (O _ _ lk) rfl S.co S.gen rfl (PySem.W.codeRec_of O hcd) (Z _ _ _ _ ?_);refine wpAny_newFunctionEnv_cells S.kind j λenv he s1 x=>?_;subst he;refine⟨lim.keeps x.toInCall.keep,codeAny_func ?_⟩;obtain⟨t,U,Y⟩:=hbody A outer s H vs Q E (L.deeper _) B;have I:Inv (cxOf CX P w K mg base N qual scope f cdv A outer s H E) [] (start N vs) H s1:=cX3 S L.hd D hl r x;refine c6 (U [] s1 (start N vs) H _ I Y) (λfl s' z=>?_) λe s' z=>z;have fin:∀ {σ':St} {H':Hp} {v:V} {u:ad},Inv (cxOf CX P w K mg base N qual scope f cdv A outer s H E) [] σ' H' s'->RelV v u->Q v H'->CE outer P w H s Q u s' :=
  λ{σ' H' v u} J G q=>⟨v,H',J.os,J.bare,J.base,J.hok,G,q⟩
 cases fl with
 | ret u =>
  obtain⟨v,σ',H',J,G,q⟩:=z;exact fin J G q
 | next =>
  obtain⟨σ',H',J,q⟩:=z;exact fin (v:=V.non) (u:=bX) J rfl q
 | brk =>
  obtain⟨_,_,_,q⟩:=z;exact dM q
 | cont =>
  obtain⟨_,_,_,q⟩:=z;exact dM q
section
variable {X:Cx} {x:Str} {p pos:Pos} {e:Expr} {es:List Expr} {t:TA} {id T:String} {r:List V->Hp->VK->Prop}
def tCB (r:List V->Hp->VK->Prop) (t:TA):TE:=fun σ H Q=>t σ H λvs H1=>r vs H1 Q
theorem bZ3 (hc:CallR X (.builtin id) r) (hg:Gl X x) (hm:X.mg x=none) (hv:cu x=some (.builtin id)) (ha:PA X (e::es) t) (hn:x ≠ "__name__":=by decide) (hdb:(x == ("__debug__" : Str))=false:=by decide)
  (he:ay (e::es) X.env=(false,eval e X.env)::ay es X.env:=by rfl) (hpl:(cD pos (ay es X.env)).any (·.1)=false:=by rfl):PE X (.Call (.Name x p) (e::es) [] pos) (tCB r t):=by
 intro pins s σ H Q I h;refine gX (ld_blt I hg hm hv ?_ hn hdb);exact PyProof.Rows.callWith_builtin1 (thn (ha pos pins s σ H _ I h) λus s1 ⟨j,H1,B,q,z⟩=>hc pins s1 σ H1 j us Q B q z) he hpl
theorem aJm (hc:CallR X (.type T) r) (hg:Gl X x) (hm:X.mg x=none) (hv:cu x=some (.type T)) (ha:PA X (e::es) t) (hn:x ≠ "__name__":=by decide) (hdb:(x == ("__debug__" : Str))=false:=by decide)
  (he:ay (e::es) X.env=(false,eval e X.env)::ay es X.env:=by rfl) (hpl:(cD pos (ay es X.env)).any (·.1)=false:=by rfl):PE X (.Call (.Name x p) (e::es) [] pos) (tCB r t):=by
 intro pins s σ H Q I h;refine gX (ld_blt I hg hm hv ?_ hn hdb);exact dO (thn (ha pos pins s σ H _ I h) λus s1 ⟨j,H1,B,q,z⟩=>hc pins s1 σ H1 j us Q B q z) he hpl
end
end L2
namespace HT
open PySem PyProof.Rows
section
variable {prog:aC} {w:aO} {A:aY} {E:ad->ai->Prop} {s:ai}
theorem cat_tup {t b:Addr} {vs ws:List ad} {Q:ad->ai->Prop} (ht:IsTup s.heap t vs.toArray) (hb:IsTup s.heap b ws.toArray) (hv:vs≠[])
  (h1:ws=[]->Q (.ref t) s) (h2:ws≠[]->Q (.ref s.heap.objs.size) { s with heap:=s.heap.push { cls:=.type "tuple",data:=.seq (vs++ws).toArray } })
  (hsz:vs.length + ws.length<=sizeLine):aD (aF prog w) A (eF .Add (.ref t) (.ref b)) Q E s:=by
 obtain⟨⟨cls,dd,data,sl⟩,D,J,n,hd⟩:=id ht;obtain⟨⟨L,B,data2,q⟩,j,z,G,hd2⟩:=id hb;simp only at J hd z hd2;subst J hd z hd2;have e:vs.toArray++ws.toArray=(vs++ws).toArray:=by simp
 by_cases hw:ws=[]
 ·exact i7 ⟨_,D,rfl⟩ ⟨_,j,rfl⟩ iH seq_tuple_add fW fR (fC _ _)
   (tuple_addW1 t b vs.toArray ws.toArray n G dd B sl q (by simpa using hv) (by simp[hw])) ⟨D,j,h1 hw⟩
 ·refine i7 ⟨_,D,rfl⟩ ⟨_,j,rfl⟩ iH seq_tuple_add fW fR (fC _ _)
   (tuple_addW2 t b vs.toArray ws.toArray n G dd B sl q (by simpa using hv) (by simpa using hw) (by rw[am,am];exact hsz)) ⟨D,j,?_⟩
  rw[e];exact h2 hw
def sIx (n d:Nat):Option Int->Nat
 | none=>d
 | some v=>if v < 0 then (v + (n:Int)).toNat else min v.toNat n
theorem sIx_nat (n d k:Nat):sIx n d (some (k:Int))=min k n:=by
 show(if (k:Int) < 0 then ((k:Int) + (n:Int)).toNat else min (k:Int).toNat n)=min k n
 rw[if_neg (by omega),bR]
theorem sIx_le (n d:Nat) (hd:d<=n) (o:Option Int):sIx n d o<=n:=by
 cases o with
 | none=>exact hd
 | some v =>
  show(if v < 0 then (v + (n:Int)).toNat else min v.toNat n)<=n
  by_cases j:v < 0
  ·rw[if_pos j];omega
  ·rw[if_neg j];exact Nat.min_le_right _ _
theorem cX4 (v:Int) (n d:Nat):(if v < 0 then max (v + (n:Int)) 0 else min v (n:Int))=((sIx n d (some v):Nat):Int):=by
 show(if v < 0 then max (v + (n:Int)) 0 else min v (n:Int))=(((if v < 0 then (v + (n:Int)).toNat else min v.toNat n):Nat):Int)
 by_cases j:v < 0
 ·simp only[if_pos j];omega
 ·simp only[if_neg j];omega
theorem cZa (lo hi:Option Int) (n:Nat):ft lo hi 1 (n:Int)=(((sIx n 0 lo:Nat):Int),((sIx n n hi:Nat):Int)):=by
 have h1:¬ ((1:Int) < 0):=by omega
 unfold ft;simp only[h1,if_false];refine Prod.ext ?_ ?_
 ·cases lo with
  | none=>rfl
  | some v=>exact cX4 v n 0
 ·cases hi with
  | none=>rfl
  | some v=>exact cX4 v n n
theorem cZb (i j:Nat):d3 (i:Int) (j:Int) 1=j - i:=by
 unfold d3;have h1:(1:Int) > 0:=by omega
 simp only[h1,if_true,Int.ediv_one]
 split <;> omega
theorem bQo {v:ad} {o:Option Int} {Q:Option Int->ai->Prop} (p:IsPart v o) (h:Q o s):aD (aF prog w) A (cg.Slice.slicePartIndex v) Q E s:=by
 cases p with
 | none=>exact slicePart_none h
 | int i t=>exact slicePart_int h
theorem sliceApplied_gen {sl:Addr} {vl vu:ad} {lo hi:Option Int} {n:Nat} {Q:Int × Int × Nat->ai->Prop} (hs:s.heap.IsSliceOf sl vl vu .none) (pl:IsPart vl lo) (pu:IsPart vu hi)
  (h:Q (((sIx n 0 lo:Nat):Int),1,sIx n n hi - sIx n 0 lo) s):aD (aF prog w) A (e9 (.ref sl) (pure (n:Int))) Q E s:=by
 obtain⟨os,j,z,q⟩:=id hs;unfold e9 cg.Slice.sliceFields;refine aa (aa (fc j q (x:=vl) rfl (aa (fc j q (x:=vu) rfl (aa (fc j q (x:=.none) rfl (ae ?_)))))));refine aa (slicePart_none ?_);show aD _ _ (if ((1:Int) == 0)=true then _ else _) _ _ s
 rw[if_neg (by decide)]
 refine aa (bQo pl (aa (bQo pu (aa (ae ?_)))));show aD _ _ (match ft lo hi 1 (n:Int) with | (lo,hi)=>pure (lo,(1:Int),d3 lo hi 1)) _ _ s
 rw[cZa lo hi n];show aD _ _ (pure (((sIx n 0 lo:Nat):Int),(1:Int),d3 ((sIx n 0 lo:Nat):Int) ((sIx n n hi:Nat):Int) 1)) _ _ s;rw[cZb];exact ae h
theorem dQn (xs:Array ad) (i k:Nat):((aT k).filterMap λ(m:Nat)=>xs[((i:Int) + (m:Int) * 1).toNat]?).toArray=((xs.toList.drop i).take k).toArray:=by
 have e:(λ(m:Nat)=>xs[((i:Int) + (m:Int) * 1).toNat]?)=λm=>xs[i + m]?:=by
  funext m
  have:((i:Int) + (m:Int) * 1).toNat=i + m:=by omega
  rw[this]
 rw[e]
 have:=pick_run xs i k
 rw[List.filterMap_map] at this;have e2:((λx=>xs[x]?) ∘ λx=>i + x)=λm=>xs[i + m]?:=rfl;rw[e2] at this;rw[this]
theorem getItem_tuple_cut {t sl:Addr} {items:Array ad} {vl vu:ad} {lo hi:Option Int} {Q:ad->ai->Prop} (ht:IsTup s.heap t items) (hs:s.heap.IsSliceOf sl vl vu .none) (pl:IsPart vl lo) (pu:IsPart vu hi)
  (hw:¬ (sIx items.size 0 lo=0/\sIx items.size items.size hi=items.size))
  (h:Q (.ref s.heap.objs.size) { s with heap:=s.heap.push { cls:=.type "tuple",data:=.seq ((items.toList.drop (sIx items.size 0 lo)).take (sIx items.size items.size hi - sIx items.size 0 lo)).toArray } })
  (hsz:items.size<=sizeLine):aD (aF prog w) A (gA (.ref t) (.ref sl)) Q E s:=by
 have j:sizeOk (.seq ((items.toList.drop (sIx items.size 0 lo)).take (sIx items.size items.size hi - sIx items.size 0 lo)).toArray):=by
  show((items.toList.drop (sIx items.size 0 lo)).take (sIx items.size items.size hi - sIx items.size 0 lo)).toArray.size<=sizeLine;rw[am,aQ,bq,aK];omega
 have O:sIx items.size items.size hi<=items.size:=sIx_le _ _ (Nat.le_refl _) hi;obtain⟨os,z,D,J⟩:=id hs;have G:s.TypeIs (.ref sl) "slice":=⟨os,z,D⟩;unfold gA
 try with_reducible refine bh ?_
 first | refine aa (ae ?_) | skip
 refine aa (wpAny_sequenceKey ht.typeIs (by decide) ?_)
 refine aa (cX (name:=a7 "__getitem__") ht.typeIs b9
  (cK b9 ht.typeIs entry_tuple_getitem ?_ (args_tuple_getitem _ _)))
 show aD _ _ (gZ (.ref t) >>= _) _ _ s;refine aa (tupleItemsOf_ ht ?_);refine aa (eQ G ?_);rw[if_pos (by decide)]
 refine aa (sliceApplied_gen hs pl pu ?_);have B:¬ ((((sIx items.size 0 lo:Nat):Int) == 0 && (1:Int) == 1 && (sIx items.size items.size hi - sIx items.size 0 lo) == items.size)=true):=by
  intro q;rw[bm,bm] at q;have N:((sIx items.size 0 lo:Nat):Int)=0:=gu q.1.1;have L:sIx items.size items.size hi - sIx items.size 0 lo=items.size:=gu q.2;exact hw ⟨by omega,by omega⟩
 show aD _ _ (if (((sIx items.size 0 lo:Nat):Int) == 0 && (1:Int) == 1 && (sIx items.size items.size hi - sIx items.size 0 lo) == items.size)=true then _ else _) _ _ s
 rw[if_neg B,dQn]
 first
  | exact aa (m:=b7 _) (bA (ae ⟨_,rfl,ae h⟩) j)
  | exact aa (m:=b7 _) (bA (aa (ae (ae ⟨_,rfl,ae h⟩))) j)
  | exact aa (aa (m:=b7 _) (bA (ae (ae ⟨_,rfl,ae h⟩)) j))
  | exact aa (aa (m:=b7 _) (bA (ae ⟨_,rfl,ae h⟩) j))
end
end HT
namespace L2
open PySem PySem.Spec PyProof.Rows
abbrev TO:=St->Hp->(Option Int->Hp->Prop)->Prop
def PO (X:Cx) (e:Option Expr) (t:TO):Prop :=
 ∀ (pins:List (Addr × Obj)) (s:ai) (σ:St) (H:Hp) (Q:Option Int->Hp->Prop),Inv X pins σ H s->t σ H Q ->
  aD (aF X.prog X.w) X.A (evalPart e X.env) (λu s'=>∃ o H',Inv X pins σ H' s'/\IsPart u o/\Q o H') X.xe s
def dJd:TO:=λ_ H Q=>Q none H
def fZu (t:TE):TO:=fun σ H Q=>t σ H λx H1=>∃ i,x=.int i/\Q (some i) H1
theorem cZc {ns:List Int}:∀ {us:List ad},Vals (ns.map V.int) us->gP us ns:=by
 induction ns with
 | nil=>intro us r;rw[dP] at r;cases r;exact .nil
 | cons n ns z =>
  intro us r;rw[bi] at r;cases r with
  | cons q j =>
   obtain⟨t,e⟩:=q;subst e;exact .cons n t (z j)
section
variable {X:Cx} {e:Expr} {te:TE} {lo hi:Option Expr} {tl th:TO} {pos p2:Pos}
theorem dJe:PO X none dJd:=by
 intro pins s σ H Q I h;rw[evalPart_none];exact ae ⟨none,H,I,.none,h⟩
theorem dJf (h:PE X e te):PO X (some e) (fZu te):=by
 intro pins s σ H Q I hw;rw[evalPart_some];refine thn (h pins s σ H _ I hw) λu s1 ⟨x,H1,B,j,z⟩=>?_;obtain⟨i,rfl,q⟩:=z;obtain⟨t,rfl⟩:=j;exact⟨some i,H1,B,.int i t,q⟩
def SlR (X:Cx) (r:V->Option Int->Option Int->Hp->VK->Prop):Prop :=
 ∀ (pins:List (Addr × Obj)) (s:ai) (σ:St) (H:Hp) (x:V) (v vl vu:ad) (lo hi:Option Int) (sl:Addr) (Q:VK),Inv X pins σ H s->RelV x v->s.heap.IsSliceOf sl vl vu .none->IsPart vl lo->IsPart vu hi->r x lo hi H Q ->
  ∃ T id,typeLookup (.type T) "__getitem__" = pure (some (.builtin id))/\s.TypeIs v T/\aD (aF X.prog X.w) X.A (gA v (.ref sl)) (EP X pins σ Q) X.xe s
theorem SlR.or {r r':V->Option Int->Option Int->Hp->VK->Prop} (h:SlR X r) (h':SlR X r'):SlR X (λx lo hi H Q=>r x lo hi H Q\/r' x lo hi H Q):=by
 intro pins s σ H x v z j lo hi sl Q I B D pl pu q;rcases q with q | q
 ·exact h pins s σ H x v z j lo hi sl Q I B D pl pu q
 ·exact h' pins s σ H x v z j lo hi sl Q I B D pl pu q
def tSl (r:V->Option Int->Option Int->Hp->VK->Prop) (te:TE) (tl th:TO):TE:=fun σ H Q=>te σ H λx H1=>tl σ H1 λl H2=>th σ H2 λu H3=>r x l u H3 Q
theorem dQo {r:V->Option Int->Option Int->Hp->VK->Prop} (hr:SlR X r) (he:PE X e te) (hl:PO X lo tl) (hu:PO X hi th):PE X (.Subscript e (.Slice lo hi none p2) pos) (tSl r te tl th):=by
 intro pins s σ H Q I h;refine Subscript_ (thn (he pins s σ H _ I h) λv s1 ⟨x,H1,I1,D,L⟩=>?_);refine wpAny_Slice (thn (hl pins s1 σ H1 _ I1 L) λz s2 ⟨l,H2,Z,pl,J⟩=>thn (hu pins s2 σ H2 _ Z J) λj s3 ⟨u,B,Y,pu,G⟩=>?_);rw[evalPart_none];refine ae ?_;have U:Inv X pins σ B { s3 with heap:=s3.heap.push { cls:=.type "slice",data:=.fields #[z,j,.none] } }:=Y.kept (t':=s3.toks) λb ob q=>ag _ q
 obtain⟨T,id,R,N,O⟩:=hr pins { s3 with heap:=s3.heap.push { cls:=.type "slice",data:=.fields #[z,j,.none] } } σ B x v z j l u s3.heap.objs.size Q U D (a9.IsSliceOf.new ..) pl pu G;show aD (aF X.prog X.w) X.A (subscriptTail e (.Slice lo hi none p2) v (.ref s3.heap.objs.size)) (EP X pins σ Q) X.xe { s3 with heap:=s3.heap.push { cls:=.type "slice",data:=.fields #[z,j,.none] } }
 exact tail_any (ops:=[.ref s3.heap.objs.size,v]) N R O (by with_unfolding_all rfl)
def cutV (xs:List V) (lo hi:Option Int):List V:=(xs.drop (HT.sIx xs.length 0 lo)).take (HT.sIx xs.length xs.length hi - HT.sIx xs.length 0 lo)
theorem aJn (xs:List V) (lo hi:Option Int):(cutV xs lo hi).length<=xs.length:=by
 unfold cutV;rw[aQ,bq];omega
def rSlT (K:ap):V->Option Int->Option Int->Hp->VK->Prop:=λx lo hi H Q=>∃ a xs,x=.ref a/\SqT K H a xs /\
 ¬ (HT.sIx xs.length 0 lo=0/\HT.sIx xs.length xs.length hi=xs.length)/\∀ p,H p=none->Q (.ref p) (upd H p (.tup (cutV xs lo hi)))
theorem eXp:SlR X (rSlT X.K):=by
 intro pins s σ H x v J G lo hi sl Q I rx D pl pu h;obtain⟨a,xs,rfl,B,hw,q⟩:=h;cases rx;obtain⟨its,r,z,j⟩:=I.tuple B;have hlen:its.toArray.size=xs.length:=by rw[am];exact r.length.symm
 refine⟨"tuple",_,b9.lookup,z.typeIs,?_⟩;refine HT.getItem_tuple_cut z D pl pu (by rw[hlen];exact hw) ?_ (by rw[hlen];exact j)
 rw[hlen];refine⟨.ref s.heap.objs.size,_,I.laid (t':=s.toks) (o:=.tup (cutV xs lo hi)) (λb L q=>ag _ q) (Nat.le_refl _) ?_,rfl,q _ (I.hok.fresh (Nat.le_refl _))⟩;exact⟨Nat.le_trans (aJn xs lo hi) j,_,(r.drop (HT.sIx xs.length 0 lo)).take (HT.sIx xs.length xs.length hi - HT.sIx xs.length 0 lo),IsTup.new _ _,cQ1⟩
def dJg (K:ap):R2:=λx y H Q=>∃ a b xs ys,x=.ref a/\y=.ref b/\SqT K H a xs/\SqT K H b ys/\xs≠[]/\xs.length + ys.length<=sizeLine /\
 (ys=[]->Q (.ref a) H)/\(ys≠[]->∀ p,H p=none->Q (.ref p) (upd H p (.tup (xs++ys))))
theorem Vals.nil_iff {xs:List V} {us:List ad} (r:Vals xs us):us=[]↔xs=[]:=by
 cases r with
 | nil=>simp
 | cons _ _=>simp
theorem dJh:OpR X (eF .Add) (dJg X.K):=by
 intro pins s σ H x y v u Q I rx ry h;obtain⟨a,b,xs,ys,rfl,rfl,U,R,O,G,L,J⟩:=h;cases rx;cases ry;obtain⟨its,B,N,_⟩:=I.tuple U;obtain⟨D,j,p2,_⟩:=I.tuple R;refine HT.cat_tup N p2 (λz=>O (B.nil_iff.mp z)) (λz=>⟨.ref a,H,I,rfl,L (j.nil_iff.mp z)⟩) (λz=>?_) (by rw[<- B.length,<- j.length];exact G)
 refine⟨.ref s.heap.objs.size,_,I.laid (t':=s.toks) (o:=.tup (xs++ys)) (λb Y q=>ag _ q) (Nat.le_refl _) ?_,rfl,J (λw=>z (j.nil_iff.mpr w)) _ (I.hok.fresh (Nat.le_refl _))⟩;exact⟨by rw[av];exact G,_,B.append j,IsTup.new _ _,cQ1⟩
end
def ixN (n:Nat) (i:Int):Option Nat:=if 0<=i then (if i < n then some i.toNat else none) else if -(n:Int)<=i then some (i + n).toNat else none
def atI {α:Type} (xs:List α) (i:Int):Option α:=(ixN xs.length i).bind λj=>xs[j]?
theorem bJ4 {n:Nat} {i:Int} {j:Nat} (h:ixN n i=some j):seqIndex? i n=some j/\j < n/\-(n:Int)<=i/\i < n:=by
 unfold ixN at h
 by_cases h0:0<=i
 ·rw[if_pos h0] at h
  by_cases h1:i < n
  ·rw[if_pos h1] at h;have e:i.toNat=j:=aR h;exact⟨by rw[seqIndex_of h0 h1,e],by omega,by omega,h1⟩
  ·rw[if_neg h1] at h;cases h
 ·rw[if_neg h0] at h
  by_cases h1:-(n:Int)<=i
  ·rw[if_pos h1] at h;have e:(i + n).toNat=j:=aR h;exact⟨by rw[seqIndex_neg (by omega) h1,e],by omega,h1,by omega⟩
  ·rw[if_neg h1] at h;cases h
theorem bJ5 {α:Type} {xs:List α} {i:Int} {v:α} (h:atI xs i=some v):∃ j,seqIndex? i xs.length=some j/\xs[j]?=some v/\j < xs.length/\-(xs.length:Int)<=i/\i < xs.length:=by
 unfold atI at h;cases e:ixN xs.length i with
 | none=>rw[e] at h;cases h
 | some j =>
  rw[e] at h;obtain⟨h1,h2,z,q⟩:=bJ4 e;exact⟨j,h1,h,h2,z,q⟩
theorem aZs {α:Type} {xs:List α} {j:Nat} {v:α} (h:xs[j]?=some v):atI xs (j:Int)=some v:=by
 have q:j < xs.length:=(aG.mp h).1;have e:ixN xs.length (j:Int)=some j:=by
  unfold ixN;rw[if_pos (by omega),if_pos (by omega)];simp
 unfold atI;rw[e];exact h
def PlainIx (b:Expr):Prop:=∀ o i,subscripted b false o i=operate [o,i] (gA o i)
def IxR (X:Cx) (r:R2):Prop :=
 ∀ (value slice:Expr) (pins:List (Addr × Obj)) (s:ai) (σ:St) (H:Hp) (x y:V) (v u:ad) (Q:VK),Inv X pins σ H s->RelV x v->RelV y u->r x y H Q ->
  subscripted slice false v u=operate [v,u] (gA v u)->aD (aF X.prog X.w) X.A (subscriptTail value slice v u) (EP X pins σ Q) X.xe s
def MtR (X:Cx) (id:String) (r:V->List V->Hp->VK->Prop):Prop :=
 ∀ (pins:List (Addr × Obj)) (s:ai) (σ:St) (H:Hp) (x:V) (xs:List V) (v:ad) (us:List ad) (Q:VK),Inv X pins σ H s->RelV x v->Vals xs us->r x xs H Q ->
  aD (aF X.prog X.w) X.A (call (.builtin id) (v::us)) (EP X pins σ Q) X.xe s
section
variable {X:Cx} {a b:Expr} {ta tb:TE} {pos:Pos}
theorem IxR.or {r r':R2} (h:IxR X r) (h':IxR X r'):IxR X (λx y H Q=>r x y H Q\/r' x y H Q):=by
 intro value slice pins s σ H x y v u Q I z j q B;rcases q with q | q
 ·exact h value slice pins s σ H x y v u Q I z j q B
 ·exact h' value slice pins s σ H x y v u Q I z j q B
theorem pe_ix {r:R2} (hr:IxR X r) (ha:PE X a ta) (hb:PE X b tb) (hs:PlainIx b):PE X (.Subscript a b pos) (tOp r ta tb):=by
 intro pins s σ H Q I h;exact Subscript_ (binT ha hb I h λv u s2 x y H2 B z j q=>hr a b pins s2 σ H2 x y v u Q B z j q (hs _ _))
def rIxL (K:ap):R2:=λx y H Q=>∃ p xs i v,x=.ref p/\y=.int i/\SqL K H p xs/\atI xs i=some v/\Q v H
def rIxT (K:ap):R2:=λx y H Q=>∃ p xs i v,x=.ref p/\y=.int i/\SqT K H p xs/\atI xs i=some v/\Q v H
def rIxS:R2:=λx y H Q=>∃ z i c,x=.str z/\y=.int i/\z.length<=sizeLine/\atI z.cps.toList i=some c/\Q (.str ⟨#[c]⟩) H
theorem ix_list:IxR X (rIxL X.K):=by
 intro value slice pins s σ H x y v u Q I rx L h G;obtain⟨p,xs,i,z,rfl,rfl,N,he,q⟩:=h;cases rx;obtain⟨t,rfl⟩:=L;obtain⟨its,r,pl,U⟩:=I.list N;obtain⟨j,h1,h2,Y,R,O⟩:=bJ5 he;obtain⟨w,J,B⟩:=r.get h2;have hl:=r.length;have hn:=bQn;have fin:EP X pins σ Q w s:=⟨z,H,I,B,q⟩
 by_cases h0:0<=i
 ·have D:i.toNat=j:=by
   rw[seqIndex_of h0 O] at h1;exact aR h1
  exact item_listR pl.isList h0 (by omega) (by rw[D];simpa using J) fin G
 ·have D:(i + (its.toArray.size:Int)).toNat=j:=by
   rw[seqIndex_neg (by omega) R] at h1
   rw[am,<- hl];exact aR h1
  exact subscriptTail_builtinR (x:=w) pl.isList.typeIs slot_list_getitem.lookup
   (wpAny_getItem_list_neg (Q:=λr s'=>r=w/\EP X pins σ Q r s') pl.isList (by omega) (by rw[am] <;> omega) (by omega) (by rw[D];simpa using J) ⟨rfl,fin⟩) G
theorem ix_tup:IxR X (rIxT X.K):=by
 intro value slice pins s σ H x y v u Q I rx D h G;obtain⟨p,xs,i,z,rfl,rfl,J,he,q⟩:=h;cases rx;obtain⟨t,rfl⟩:=D;obtain⟨its,r,pl,N⟩:=I.tuple J;obtain⟨j,h1,h2,U,R,O⟩:=bJ5 he;obtain⟨w,L,B⟩:=r.get h2;have hl:=r.length;have hn:=bQn;have fin:EP X pins σ Q w s:=⟨z,H,I,B,q⟩;exact subscriptTail_builtinR (x:=w) pl.typeIs slot_tuple_getitem.lookup
  (getItem_tuple (j:=j) (Q:=λr s'=>r=w/\EP X pins σ Q r s') pl (by omega) (by omega) (by rw[am,<- hl];exact h1) (by simpa using L) ⟨rfl,fin⟩) G
theorem eXq:IxR X rIxS:=by
 intro value slice pins s σ H x y v u Q I D B h G;obtain⟨z,i,c,rfl,rfl,O,he,q⟩:=h;obtain⟨t,rfl⟩:=D;obtain⟨N,rfl⟩:=B;obtain⟨j,h1,h2,R,L,J⟩:=bJ5 he;have hl:z.cps.toList.length=z.length:=by simp[Str.length]
 rw[hl] at h1 L J;have hn:=bQn;exact tail_any (typeIs_str s z t) slot_str_getitem.lookup (getItem_str (c:=c) (by
  have e1:decide (i < -(2 ^ 63:Int))=false:=decide_eq_false (by omega)
  have e2:decide (i >= 2 ^ 63)=false:=decide_eq_false (by omega)
  rw[e1,e2,Bool.or_false]) (by rw[h1];simpa using h2) ⟨.str ⟨#[c]⟩,H,I.tok _,⟨_,rfl⟩,q⟩) G
def rIx (K:ap):R2:=λx y H Q=>rIxL K x y H Q\/rIxT K x y H Q\/rIxS x y H Q
theorem eXr:IxR X (rIx X.K):=ix_list.or (ix_tup.or eXq)
theorem cZd (its:List ad) (n j:Nat) (u:ad):bK (·.setIfInBounds j u) { cls:=.type "list",data:=.seq its.toArray n }={ cls:=.type "list",data:=.seq (its.set j u).toArray n }:=by
 simp[bK]
theorem Inv.lst {pins:List (Addr × Obj)} {σ:St} {H:Hp} {s:ai} {p:Addr} {xs:List V} (I:Inv X pins σ H s) (h:H p=some (.lst xs)) :
  ∃ (its:List ad) (n:Nat),Vals xs its/\s.heap.get? p=some { cls:=.type "list",data:=.seq its.toArray n }/\xs.length<=sizeLine:=by
 obtain⟨z,its,n,r,e⟩:=I.hok p _ h;exact⟨its,n,r,e,z⟩
theorem Inv.lstUpd {pins:List (Addr × Obj)} {σ:St} {H:Hp} {s:ai} {p:Addr} {xs ys:List V} {its its':List ad} {n n':Nat} {f:Obj->Obj} (I:Inv X pins σ H s) (h:H p=some (.lst xs))
  (ho:s.heap.get? p=some { cls:=.type "list",data:=.seq its.toArray n }) (hf:f { cls:=.type "list",data:=.seq its.toArray n }={ cls:=.type "list",data:=.seq its'.toArray n' }) (r:Vals ys its') (hz:ys.length<=sizeLine) (t:Nat) :
  Inv X pins σ (upd H p (.lst ys)) { s with heap:=s.heap.update p f,toks:=t }:=by
 have e:(s.heap.update p f).get? p=some { cls:=.type "list",data:=.seq its'.toArray n' }:=by
  rw[ca f ho (by rw[hf] <;> rfl),hf]
 refine I.write (x:=p) (e:=p) (by rw[h];trivial) (.inl rfl) (λb u j q=>(cv _ _ (cf j)).trans q) ⟨_,e⟩ ?_
 exact⟨hz,its',n',r,e⟩
def fZv:V->V->V->Hp->(Hp->Prop)->Prop:=λo i v H Q=>∃ p xs k j,o=.ref p/\i=.int k/\H p=some (.lst xs)/\ixN xs.length k=some j/\Q (upd H p (.lst (xs.set j v)))
theorem dQp:PSet X fZv:=by
 intro pins s σ H o i v Y iv u Q I ro O N h;obtain⟨p,xs,k,j,rfl,rfl,D,U,q⟩:=h;cases ro;obtain⟨t,rfl⟩:=O;obtain⟨its,n,r,z,R⟩:=I.lst D;obtain⟨h1,h2,J,G⟩:=bJ4 U;have hl:=r.length;have hn:=bQn;have L:Inv X pins σ (upd H p (.lst (xs.set j v))) { s with heap:=s.heap.update p (bK (·.setIfInBounds j u)) } :=
  I.lstUpd D z (cZd its n j u) (r.set N j) (by rw[List.length_set];exact R) s.toks
 by_cases h0:0<=k
 ·have B:k.toNat=j:=by
   rw[seqIndex_of h0 G] at h1;exact aR h1
  exact PySem.W.ki_setAt z h0 (by omega) (by rw[am,<- hl];exact G) (by rw[B];exact⟨_,L,q⟩)
 ·have B:(k + (its.toArray.size:Int)).toNat=j:=by
   rw[seqIndex_neg (by omega) J] at h1
   rw[am,<- hl];exact aR h1
  exact PySem.W.ki_setBack z (by omega) (by rw[am,<- hl];exact J) (by omega) (by rw[B];exact⟨_,L,q⟩)
theorem aJ4 (lo hi:Option Int) (n:Nat):(eL lo hi none n).1=((HT.sIx n 0 lo:Nat):Int)/\(eL lo hi none n).2.1=((HT.sIx n n hi:Nat):Int)/\(eL lo hi none n).2.2=1:=by
 refine⟨?_,?_,rfl⟩
 ·cases lo with
  | none=>simp[eL,HT.sIx]
  | some i =>
   simp only[eL,HT.sIx,iI,show(1:Int) > 0 by decide,if_true]
   by_cases h:i < 0
   ·simp only[h,if_true] <;> omega
   ·simp only[h,if_false] <;> omega
 ·cases hi with
  | none=>simp[eL,HT.sIx]
  | some i =>
   simp only[eL,HT.sIx,iI,show(1:Int) > 0 by decide,if_true]
   by_cases h:i < 0
   ·simp only[h,if_true] <;> omega
   ·simp only[h,if_false] <;> omega
theorem bZ4 (its:List ad) (lo hi:Option Int):slicePick its.toArray lo hi none=((its.drop (HT.sIx its.length 0 lo)).take (HT.sIx its.length its.length hi - HT.sIx its.length 0 lo)).toArray:=by
 obtain⟨h1,h2,j⟩:=aJ4 lo hi its.toArray.size;unfold slicePick;rw[h1,h2,j];simp only[sliceRange_one,pick_run,am] <;> rfl
def rSlL (K:ap):V->Option Int->Option Int->Hp->VK->Prop:=λx lo hi H Q=>∃ a xs,x=.ref a/\SqL K H a xs/\∀ p,H p=none->Q (.ref p) (upd H p (.lst (cutV xs lo hi)))
theorem dJi:SlR X (rSlL X.K):=by
 intro pins s σ H x v J G lo hi sl Q I rx D pl pu h;obtain⟨a,xs,rfl,B,q⟩:=h;cases rx;obtain⟨its,r,j,z⟩:=I.list B;have hlen:=r.length;refine⟨"list",_,slot_list_getitem.lookup,j.isList.typeIs,?_⟩;refine wpAny_getItem_list_slice j.isList D pl pu .none (by simp) ?_ (by rw[am] <;> omega)
 rw[bZ4,<- hlen];refine⟨.ref s.heap.objs.size,_,I.laid (t':=s.toks) (o:=.lst (cutV xs lo hi)) (λb L q=>ag _ q) (Nat.le_refl _) ?_,rfl,q _ (I.hok.fresh (Nat.le_refl _))⟩;exact⟨Nat.le_trans (aJn xs lo hi) z,_,0,(r.drop (HT.sIx xs.length 0 lo)).take (HT.sIx xs.length xs.length hi - HT.sIx xs.length 0 lo),ax _ rfl⟩
theorem CallR.or {f:ad} {r r':List V->Hp->VK->Prop} (h:CallR X f r) (h':CallR X f r'):CallR X f (λxs H Q=>r xs H Q\/r' xs H Q):=by
 intro pins s σ H xs us Q I rs q;rcases q with q | q
 ·exact h pins s σ H xs us Q I rs q
 ·exact h' pins s σ H xs us Q I rs q
theorem call_list_of:CallR X (.type "list") (λxs H Q=>∃ p ys,xs=[.ref p]/\(SqL X.K H p ys\/SqT X.K H p ys)/\∀ l,H l=none->Q (.ref l) (upd H l (.lst ys))):=by
 intro pins s σ H xs us Q I r h;obtain⟨p,ys,rfl,D,q⟩:=h;obtain⟨u,rfl,rx⟩:=aX9 r;cases rx;have fin:∀ (its:List ad),Vals ys its->ys.length<=sizeLine->∀ (h':a9) (z:Nat),(∀ b o',s.heap.get? b=some o'->h'.get? b=some o') ->
   h'.get? s.heap.objs.size=some { cls:=.type "list",dict:=none,data:=.seq its.toArray z,slots:=#[] }->EP X pins σ Q (.ref s.heap.objs.size) { s with heap:=h' }:=λits j B h' z kp e =>
  ⟨.ref s.heap.objs.size,_,I.laid (t':=s.toks) kp (Nat.le_refl _) (show ObjOk X.prog X.w _ h' _ (.lst ys) from⟨B,its,z,j,e⟩),rfl,q _ (I.hok.fresh (Nat.le_refl _))⟩
 rcases D with D | D
 ·obtain⟨its,j,pl,B⟩:=I.list D;have hlen:=j.length;obtain⟨o,G,J,n,hd⟩:=pl.isList;exact call_list_seq p (.inl rfl) G J hd (λh' z kp e=>fin its j B h' z kp e) (by simp only[am] <;> omega)
 ·obtain⟨its,j,pl,B⟩:=I.tuple D;have hlen:=j.length;obtain⟨o,G,J,n,hd⟩:=pl;exact call_list_seq p (.inr rfl) G J hd (λh' z kp e=>fin its j B h' z kp e) (by simp only[am] <;> omega)
theorem bZ5:CallR X (.type "tuple") (λxs H Q=>∃ p ys,xs=[.ref p]/\((SqL X.K H p ys/\∀ l,H l=none->Q (.ref l) (upd H l (.tup ys)))\/(SqT X.K H p ys/\Q (.ref p) H))):=by
 intro pins s σ H xs us Q I r h;obtain⟨p,ys,rfl,h⟩:=h;obtain⟨u,rfl,rx⟩:=aX9 r;cases rx;rcases h with⟨z,q⟩ | ⟨z,q⟩
 ·obtain⟨its,j,pl,B⟩:=I.list z;have hlen:=j.length;refine call_tuple_list pl.isList (λh' kp=>?_) (by simp only[am] <;> omega)
  have D:Inv X pins σ H { s with heap:=h' }:=I.kept (t':=s.toks) kp
  have G:Inv X pins σ (upd H h'.objs.size (.tup ys)) { s with heap:=h'.push { cls:=.type "tuple",data:=.seq its.toArray } } :=
   D.laid (t':=s.toks) (λb o e=>ag _ e) (Nat.le_refl _) (show ObjOk X.prog X.w _ _ _ (.tup ys) from⟨B,its,j,IsTup.new _ _,cQ1⟩)
  exact⟨.ref h'.objs.size,_,G,rfl,q _ (D.hok.fresh (Nat.le_refl _))⟩
 ·obtain⟨its,j,pl,B⟩:=I.tuple z;exact call_tuple_same pl ⟨.ref p,H,I,rfl,q⟩
def tyV (K:ap) (T:String) (x:V) (H:Hp):Prop:=match x with
 | .str _=>T = "str"
 | .int _=>T = "int"
 | .ref p=>(T = "list"/\∃ xs,SqL K H p xs)\/(T = "tuple"/\∃ o,K.lookup p=some o/\o.cls=.type "tuple"/\o.dict=none) \/
   (T = "dict"/\((∃ kvs,H p=some (.dK kvs))\/∃ kvs,H p=some (.dT kvs)))\/(T = "set"/\∃ S n,H p=some (.set S n))
 | _=>False
theorem eXs {pins:List (Addr × Obj)} {σ:St} {H:Hp} {s:ai} {T:String} {x:V} {v:ad} (I:Inv X pins σ H s) (r:RelV x v) (ty:tyV X.K T x H) :
  s.TypeIs v T/\∀ a,v=.ref a->∃ ob,s.heap.get? a=some ob/\ob.dict=none:=by
 cases x with
 | str z =>
  obtain⟨t,rfl⟩:=r;cases (show T = "str" from ty)
  exact⟨typeIs_str s z t,λ_ e=>nomatch e⟩
 | int i =>
  obtain⟨t,rfl⟩:=r;cases (show T = "int" from ty)
  exact⟨typeIs_int s i t,λ_ e=>nomatch e⟩
 | ref p =>
  cases r;rcases ty with⟨rfl,xs,B⟩ | ⟨rfl,o,j,D,hd⟩ | ⟨rfl,j⟩ | ⟨rfl,S,n,j⟩
  ·obtain⟨its,_,pl,_⟩:=I.list B;refine⟨pl.isList.typeIs,λa e=>?_⟩;cases e;obtain⟨o,n,e,c,hd,_⟩:=pl;exact⟨o,e,hd⟩
  ·refine⟨⟨o,I.kIn p o j,D⟩,λa e=>?_⟩;cases e;exact⟨o,I.kIn _ o j,hd⟩
  ·have z:∃ o,s.heap.get? p=some o/\o.ExactDict:=by
    rcases j with⟨q,j⟩ | ⟨q,j⟩
    ·obtain⟨_,_,_,_,o,_,_,e,ex,_⟩:=I.hok p _ j;exact⟨o,e,ex⟩
    ·obtain⟨_,_,_,_,o,_,_,e,ex,_⟩:=I.hok p _ j;exact⟨o,e,ex⟩
   obtain⟨o,e,ex⟩:=z;refine⟨⟨o,e,ex.1⟩,λa e2=>?_⟩;cases e2;exact⟨o,e,ex.2.1⟩
  ·obtain⟨o,_,_,_,e,ex,_⟩:=I.hok p _ j;refine⟨⟨o,e,ex.1⟩,λa e2=>?_⟩;cases e2;exact⟨o,e,ex.2.1⟩
 | _=>exact dM ty
def tBM (K:ap) (T:String) (r:V->List V->Hp->VK->Prop) (to:TE) (t:TA):TE:=fun σ H Q=>to σ H λx H1=>tyV K T x H1/\t σ H1 λxs H2=>r x xs H2 Q
variable {o e:Expr} {es:List Expr} {to:TE} {t:TA} {name:Str} {apos cpos:Pos} {T id:String} {r:V->List V->Hp->VK->Prop}
theorem fZw (pa:PlainAttrs T) (slot:Slot T name id) (hty:typeOf (.builtin id)=pure (.type "method_descriptor")) (hm:MtR X id r) (ho:PE X o to) (ha:PA X (e::es) t)
  (hbase:fD o name X.env (eval o X.env)=eval o X.env:=by rfl)
  (hfew:((cD cpos (ay (e::es) X.env)).all (λx=>!x.1) && (jm cpos (gE [] X.env)).all (λx=>x.1.isSome)
   && decide ((e::es).length + ([]:List fX).length + (if ([]:List fX).isEmpty then 0 else 1) < 30))=true:=by rfl)
  (hline:(apos.endLine == cpos.line)=true:=by rfl) (hs:ay (e::es) X.env=(false,eval e X.env)::ay es X.env:=by rfl) (hplain:(cD cpos (ay es X.env)).any (·.1)=false:=by rfl) :
  PE X (.Call (.Attribute o name apos) (e::es) [] cpos) (tBM X.K T r to t):=by
 intro pins s σ H Q I h;refine wpAny_Call_method_late hbase hfew hline rfl (thn (ho pins s σ H _ I h) λv s1 ⟨x,H1,z,j,ty,J⟩=>?_);obtain⟨h1,h2⟩:=eXs z j ty;refine⟨T,id,pa,slot,hty,h1,h2,?_⟩;have q:=ha cpos pins s1 σ H1 _ z J;rw[hs] at q ⊢;refine Calls.callWith_builtin (by show(false || (cD cpos (ay es X.env)).any (·.1))=false;rw[hplain] <;> rfl) (Calls.evalArgs_plain ?_)
 exact thn q λus s2 ⟨B,H2,L,D,G⟩=>hm pins s2 σ H2 x B v us Q L j D G
end
def MtM (X:Cx) (id:String) (r:V->List V->Hp->VK->Prop):Prop :=
 ∀ (pins:List (Addr × Obj)) (s:ai) (σ:St) (H:Hp) (x:V) (xs:List V) (v:ad) (us:List ad) (Q:VK),Inv X pins σ H s->RelV x v->Vals xs us->r x xs H Q ->
  aD (aF X.prog X.w) X.A (call (.builtin id) (v::us)) (EP X pins σ Q) X.xe s
theorem Vals.one:∀ {x:V} {us:List ad},Vals [x] us->∃ u,us=[u]/\RelV x u:=by
 intro x us h;cases h with
 | cons r t=>cases t;exact⟨_,rfl,r⟩
theorem Vals.eraseIdx:∀ {xs:List V} {us:List ad} (i:Nat),Vals xs us->Vals (xs.eraseIdx i) (us.eraseIdx i)
 | _,_,_,.nil=>.nil
 | _,_,0,.cons _ t=>t
 | _,_,i + 1,.cons r t=>.cons r (Vals.eraseIdx i t)
theorem bX3 {α:Type}:∀ (l:List α) (i:Nat),(l.eraseIdx i).length<=l.length
 | [],_=>Nat.le_refl _
 | _::_,0=>Nat.le_succ _
 | _::r,i + 1=>Nat.succ_le_succ (bX3 r i)
section
variable {X:Cx} {pins:List (Addr × Obj)} {σ:St} {H:Hp} {s:ai} {l b:Addr} {xs ys zs:List V}
theorem Inv.lset {its its':List ad} {n:Nat} {f:Array ad->Array ad} {t':Nat} (I:Inv X pins σ H s) (hH:H l=some (.lst xs))
  (e:s.heap.get? l=some { cls:=.type "list",data:=.seq its.toArray n }) (hf:f its.toArray=its'.toArray) (hv:Vals ys its') (hz:ys.length<=sizeLine) :
  Inv X pins σ (upd H l (.lst ys)) { s with heap:=s.heap.update l (bK f),toks:=t' }:=by
 have q:=PySem.IsL.update e f;rw[hf] at q;refine I.write (x:=l) (e:=l) (by rw[hH];exact trivial) (.inl rfl) (λB u z j=>(cv s.heap (bK f) (cf z)).trans j) ⟨_,q⟩ ?_
 exact⟨hz,its',_,hv,q⟩
theorem Inv.lnew {its:List ad} {t':Nat} (I:Inv X pins σ H s) (hv:Vals ys its) (hz:ys.length<=sizeLine) :
  Inv X pins σ (upd H s.heap.objs.size (.lst ys)) { s with heap:=s.heap.push { cls:=.type "list",data:=.seq its.toArray },toks:=t' } :=
 I.laid (λ_ _ q=>ag _ q) (Nat.le_refl _) ⟨hz,its,0,hv,ax _ rfl⟩
theorem Inv.fresh (I:Inv X pins σ H s):H s.heap.objs.size=none:=I.hok.fresh (Nat.le_refl _)
theorem Inv.lstM (I:Inv X pins σ H s) (hH:H l=some (.lst xs)):xs.length<=sizeLine/\∃ (its:List ad) (n:Nat),Vals xs its/\xs.length=its.length/\s.heap.get? l=some { cls:=.type "list",data:=.seq its.toArray n }:=by
 obtain⟨z,its,n,r,e⟩:=I.hok l _ hH;exact⟨z,its,n,r,r.length,e⟩
theorem cQ4 {n:Nat} (h:n<=sizeLine):dD n=false:=by
 unfold dD;exact decide_eq_false (by omega)
end
section
variable {X:Cx}
def cX5:V->List V->Hp->VK->Prop:=λx vs H Q=>∃ l xs y,x=.ref l/\vs=[y]/\H l=some (.lst xs)/\xs.length < sizeLine/\Q .non (upd H l (.lst (xs++[y])))
theorem bX4:MtM X "list.append" cX5:=by
 intro pins s σ H x G v us Q I rx B h;obtain⟨l,xs,y,rfl,rfl,j,J,q⟩:=h;cases rx;obtain⟨u,rfl,D⟩:=B.one;obtain⟨z,its,n,r,hl,e⟩:=I.lstM j;refine g6 F.slot_list_append ⟨_,e,rfl⟩ F.entry_list_append (F.args_list_append_2 _ _) (PySem.list_append l its.toArray n u (by rw[am];omega)) ⟨e,?_⟩
 refine⟨.non,_,I.lset (its':=its++[u]) j e (by simp) (r.append (.cons D .nil)) ?_,rfl,q⟩
 rw[av,dZ];omega
def cX6:V->List V->Hp->VK->Prop:=λx vs H Q=>∃ l b xs zs,x=.ref l/\vs=[.ref b]/\H l=some (.lst xs)/\H b=some (.lst zs)/\xs.length + zs.length<=sizeLine/\Q .non (upd H l (.lst (xs++zs)))
theorem cX7:MtM X "list.extend" cX6:=by
 intro pins s σ H x Y v us Q I rx J h;obtain⟨l,b,xs,zs,rfl,rfl,G,R,Z,q⟩:=h;cases rx;obtain⟨u,rfl,ru⟩:=J.one;cases ru;obtain⟨z,its,n,r,hl,e⟩:=I.lstM G;obtain⟨U,j,N,L,O,e2⟩:=I.lstM R;have D:its.toArray.size + j.toArray.size<=sizeLine:=by rw[am,am];omega
 have B:¬ (!its.toArray.isEmpty && dD (its.toArray.size + j.toArray.size))=true:=by
  rw[cQ4 D,jn];exact b8
 refine g6 F.slot_list_extend ⟨_,e,rfl⟩ F.entry_list_extend (F.args_list_extend_2 _ _)
  (AutoSeq1.list_extend_list_list_0 l its.toArray n b j.toArray N B (by rw[am];omega) (by omega)) ⟨e,e2,?_⟩
 refine⟨.non,_,I.lset (its':=its++j) G e (by simp) (r.append L) ?_,rfl,q⟩
 rw[av];omega
def dXb:V->List V->Hp->VK->Prop:=λx vs H Q=>∃ l xs i k y,x=.ref l/\vs=[.int i]/\H l=some (.lst xs)/\-(2 ^ 63)<=i/\i < 2 ^ 63/\seqIndex? i xs.length=some k/\xs[k]?=some y/\Q y (upd H l (.lst (xs.eraseIdx k)))
theorem dQq:MtM X "list.pop" dXb:=by
 intro pins s σ H x N v us Q I rx D h;obtain⟨l,xs,i,k,y,rfl,rfl,B,h1,h2,L,J,q⟩:=h;cases rx;obtain⟨u,rfl,G⟩:=D.one;obtain⟨t,rfl⟩:=G;obtain⟨z,its,n,r,hl,e⟩:=I.lstM B;obtain⟨w,hw,j⟩:=r.get J;refine g6 F.slot_list_pop ⟨_,e,rfl⟩ F.entry_list_pop (F.args_list_pop_2 _ _)
  (MeetsSeq.list_pop_at l its.toArray n i t k w (fitsIndex_both h1 h2) (by rw[am,<- hl];exact L) (by rw[<- aM];exact hw) (by rw[am];omega)) ⟨e,?_⟩
 refine⟨y,_,I.lset (its':=its.eraseIdx k) B e ?_ (r.eraseIdx k) ?_,j,q⟩
 ·show its.toArray.eraseIdxIfInBounds k=(its.eraseIdx k).toArray;rw[List.eraseIdxIfInBounds_toArray]
 ·have:=bX3 xs k
  omega
end
section
variable {prog:aC} {w:aO} {A:aY} {E:ad->ai->Prop} {s:ai}
set_option maxRecDepth 100000 in
end
end L2
namespace Att
open PySem PySem.W PySem.Calls PyProof.Rows
theorem aJo {P:Params} {h:a9}:∀ (ns:List Int) (vs:List ad),WellAll P h vs (ns.map WData.int)->gP vs ns:=by
 intro ns
 induction ns with
 | nil =>
  intro vs w;rw[dP] at w;cases w;exact .nil
 | cons n ns j =>
  intro vs w;rw[bi] at w;cases w with
  | cons a b =>
   cases a;exact .cons _ _ (j _ b)
theorem cX8 {l:OpenLaw} {n:Nat} (hn:l.most=some n) {P:Params} {h:a9} {args:List WData} {vals:List ad}
  (hpre:l.row.toRowW.claim.pre args=true) (hwl:WellAll P h vals args) :
  ∃ a vs ns,vals=[gq a]/\args=[WData.list (ns.map WData.int)]/\h.get? a=some { cls:=.type "list",data:=.seq vs.toArray }/\gP vs ns/\ns.length<=n:=by
 have D:WShape.hasAll [] args [.list .int]=true:=(pre_splitW hpre).1;have G:l.pre.holds [] { args:=args }=true:=(pre_splitW hpre).2;obtain⟨d,r,rfl,h1,h2⟩:=hasAllW_cons D;obtain rfl:=hasAllW_nil h2;obtain⟨xs,rfl,N⟩:=hasW_list h1;obtain⟨ns,rfl⟩:=items_int N;have hlen:ns.length<=n:=by
  unfold OpenLaw.pre at G;have B:(WTm.not (.lt (.lit (.int (n:Int))) (.len (.arg 0)))).holds [] { args:=[.list (ns.map .int)] }=true:=by
   have B:=(holds_andW G).1;rw[hn] at B;exact B
  have z:=condW_of B (w_not (w_lt w_lit (w_len_list (w_arg rfl))));rw[aj] at z;refine Nat.le_of_not_lt λq=>?_;have J:(n:Int) < ((ns.length:Nat):Int):=by omega
  first
   | (rw[decide_eq_true J] at z;exact absurd z (by decide))
   | (simp at z;omega)
 cases hwl with
 | cons w1 w2 =>
  cases w2;cases w1 with
  | list L j=>exact⟨_,_,ns,rfl,rfl,L,aJo ns _ j,hlen⟩
theorem cX9 (l:OpenLaw) (args:List WData):l.row.toRowW.claim.post args (.bool true) args=true :=
 postW_of (r:=l.row.toRowW) (X:=(true == true))
  (show WShape.has [] (.bool true) .bool=true by first | rfl | decide | simp[WShape.has,WShape.arms,WShape.armsAll])
  (show(WTm.eq .res (.lit (.bool true))).value [] { args:=args,res:=some (.bool true),after:=args }=some (.bool (true == true)) from w_eq_bool (w_res rfl) w_lit) rfl
theorem attach_call {l:OpenLaw} {n:Nat} {q:aC} {loose:List Str} {XP:(Str->Option ad)->a9->Prop} {YP:aO->a9->Prop} {d:DefRec}
  (hn:l.most=some n) (hdf:d.params.defaults=[])
  (call:∀ (w:aO) (s₀ s₁:ai) (mg mb:Str->Option ad) (fa:Addr) (o:Obj) (pm cd doc:ad) (a:Addr) (vs:List ad) (ns:List Int),
   Ground q loose [] XP w s₀ mg mb s₁.heap->YP w s₁.heap ->
   s₁.heap.get? fa=some o->o.data=.func (docDef d.name d.params d.body d.scope pm cd doc)->s₁.heap.CodeRec cd d.name->mg d.name=some (.ref fa) ->
   s₁.heap.get? a=some { cls:=.type "list",data:=.seq vs.toArray }->gP vs ns->ns.length<=n->s₁.gens=#[] ->
   fj (aF l.prog w) callerA (.call (.ref fa) ⟨[.ref a],[]⟩) (λr s'=>r=.ok (.ret (.bool true))/\OldK s₁.heap s'.heap/\s'.os=s₁.os/\io s'.gens) s₁) :
  WalkO q loose XP YP l.row.toRowW d [] (λf vs=>PySem.call f vs):=by
 intro w s₀ s₁ mg mb G Y fa o pm cd doc dV kV U hd J N D hg args vals as j L O B Z;obtain rfl:dV=.none:=Dflts.none N hdf;obtain rfl:kV=.none:=Dflts.noKw N;obtain⟨a,vs,ns,rfl,rfl,z,hints,hlen⟩:=cX8 hn j B;refine enter_call (fk (call w s₀ s₁ mg mb fa o pm cd doc a vs ns G Y U (fd_plain hd) J D z hints hlen hg) λr s' R=>?_);obtain⟨rfl,h2,h3,h4⟩:=R;exact⟨.inl ⟨.bool true,.bool true,[],rfl,λ_=>rfl,.bool true,cX9 l _,λ_=>⟨d6,λ_ hm=>(nomatch hm)⟩⟩,h2,h3,h4⟩
end Att
namespace L2
open PySem PySem.Spec PyProof.Rows
theorem aJp:∀ {vs:List ad} {ns:List Int},gP vs ns->Vals (ns.map V.int) vs
 | _,_,.nil=>.nil
 | _,_,.cons n t h=>.cons ⟨t,rfl⟩ (aJp h)
def Only (H:Hp):Prop:=∀ b,H b=none\/∃ o xs,H b=some (.frz o (.lst xs))
theorem dQr {P:aC} {w:aO} {K:ap} {mg mb:Str->Option ad} {CX:CXT} {k:Nat} {fa a:Addr} {fd:dw} {x:Str} {sp:Sp} {s₁:ai} {vs:List ad} {ns:List Int}
  (KX:K.In s₁.heap) (hns:s₁.heap.Ns a8 mg) (hb:s₁.heap.Ns builtinsNs mb) (hbb:∀ x:Str,x ≠ "__name__"->mb x=cu x) (hlim:s₁.heap.NoLimit) (hg:s₁.gens=#[])
  (ha:s₁.heap.get? a=some { cls:=.type "list",data:=.seq vs.toArray }) (hi:gP vs ns) (hl:ns.length<=sizeLine) (hr:Room k callerA)
  (F:∀ base:a9,K.In base->base.Ns a8 mg->FnOk P w K mg base CX k fa fd [x] sp) (hbind:∀ (s:ai) (u:ad),BindsTo s fd ⟨[u],[]⟩ [(x,u)])
  (hsp:∀ H:Hp,Only H->SqL K H a (ns.map V.int)->sp [.ref a] H (λv _=>v=.bl true) λ_ _ _=>False)
  (hCX:∀ H e s',CX [] H s₁ (λ_ _ _=>False) e s'->False) :
  fj (aF P w) callerA (.call (.ref fa) ⟨[.ref a],[]⟩) (λr s'=>r=.ok (.ret (.bool true))/\OldK s₁.heap s'.heap/\s'.os=s₁.os/\io s'.gens) s₁:=by
 have O:=aJp hi;have D:=hi.length;have core:∀ H:Hp,Only H->SqL K H a (ns.map V.int)->HOk P w H s₁.heap->(∀ b,H b≠none->b=a)->(H a≠none->K.lookup a=none) ->
   fj (aF P w) callerA (.call (.ref fa) ⟨[.ref a],[]⟩) (λr s'=>r=.ok (.ret (.bool true))/\OldK s₁.heap s'.heap/\s'.os=s₁.os/\io s'.gens) s₁:=by
  intro H R hS hok U hK;have j:∀ {b:Addr} {o:Obj},s₁.heap.get? b=some o->H b=none->(hidT s₁.heap H).get? b=some o:=λe n=>dQh e n;have L:∀ {b:Addr} {o:Obj} {es:Array DictEntry} {ep:Nat},s₁.heap.get? b=some o->o.data=.dict es ep->H b=none:=λ{b o es ep} e d=>by
   cases q:H b with
   | none=>rfl
   | some u =>
    have N:b=a:=U b (by rw[q];simp)
    subst N;rw[ha] at e;cases e;have d':Data.seq vs.toArray _=Data.dict es ep:=d;cases d'
  have B:∀ {b:Addr} {m:Str->Option ad},s₁.heap.Ns b m->(hidT s₁.heap H).Ns b m:=λ{b m} ⟨o,es,ep,e,d,r⟩=>⟨o,es,ep,j e (L e d),d,r⟩;have J:K.In (hidT s₁.heap H):=λb o e=>j (KX b o e) (by
   cases q:H b with
   | none=>rfl
   | some u =>
    have N:b=a:=U b (by rw[q];simp)
    subst N;rw[hK (by rw[q];simp)] at e;cases e)
  have hM:Mod K mg (hidT s₁.heap H):=⟨J,B hns,⟨mb,B hb,hbb⟩,let ⟨mc,h1,h2⟩:=hlim;⟨mc,B h1,h2⟩⟩
  have e0:Env0 P w K mg (hidT s₁.heap H) callerA [] s₁ H:=⟨rfl,rfl,hM,λb o e=>dJ3 e,Nat.le_of_eq (cZx _ _),trivial,λb hb=>absurd (show b∈([]:List Addr) from hb) (by simp),hok,.of_eq hg⟩
  refine fk ((F _ J (B hns)).run callerA [] s₁ H ⟨[.ref a],[]⟩ [.ref a] [.ref a] _ _ hr e0 (hbind s₁ (.ref a)) (.cons rfl .nil) (hsp H R hS)) λr s' h=>?_;cases r with
  | error e=>exact(hCX H e s' h).elim
  | ok fl =>
   cases fl with
   | next=>exact dM h
   | brk=>exact dM h
   | cont=>exact dM h
   | ret u =>
    obtain⟨v,H',os,bare,un,G,Z,q⟩:=h;have q':v=.bl true:=q;subst q';obtain rfl:u=ad.bool true:=Z;refine⟨rfl,OldK.of_keep λb o e=>?_,os,bare⟩;cases q:H b with
    | none=>exact un.keep b o e q (by intro z;exact absurd (show b∈([]:List Addr) from z) (by simp)) (by simp)
    | some u =>
     rcases R b with z | ⟨ob,xs,z⟩
     ·rw[q] at z;cases z
     ·have Y:=un.frzs b ob _ z;obtain⟨e1,_⟩:=hok b _ z;obtain⟨e2,_⟩:=G b _ Y;rw[e] at e1;cases e1;exact e2
 cases hk:K.lookup a with
 | some o =>
  have e:=KX a o hk;rw[ha] at e;cases e;refine core (λ_=>none) (λ_=>.inl rfl) (.inr ⟨_,vs.toArray,_,hk,rfl,rfl,rfl,by rw[am,D];exact hl,by simpa using O⟩) (λb u z=>by have z':(none:Option HO)=some u:=z;cases z') (λb z=>absurd rfl z) λz=>absurd rfl z
 | none =>
  refine core (λb=>if b=a then some (.frz { cls:=.type "list",data:=.seq vs.toArray } (.lst (ns.map V.int))) else none) (λb=>?_) (.inl (.inr ⟨{ cls:=.type "list",data:=.seq vs.toArray },if_pos rfl⟩)) (λb u z=>?_) (λb z=>?_) λ_=>hk
  ·by_cases hb:b=a
   ·exact .inr ⟨_,_,if_pos hb⟩
   ·exact .inl (if_neg hb)
  ·by_cases hb:b=a
   ·have z':=(if_pos hb).symm.trans z;cases z';subst hb;exact⟨ha,by rw[aj];exact hl,vs,_,O,ha⟩
   ·have z':=(if_neg hb).symm.trans z;cases z'
  ·by_cases hb:b=a
   ·exact hb
   ·exact absurd (if_neg hb) z
abbrev KOf {K:ap} {h:a9} (_:K.In h):ap:=K
theorem walk_of {l:je} {n k:Nat} {q:aC} {loose:List Str} {XP:(Str->Option ad)->a9->Prop} {YP:aO->a9->Prop} {d:DefRec} {K:Params->ap} {CX:aO->CXT} {sp:aO->Sp} {x:Str}
  (hn:l.most=some n) (hn2:n<=sizeLine) (hdf:d.params.defaults=[]) (hr:Room k callerA)
  (hY:∀ (w:aO) (h:a9),YP w h->(K w.params).In h)
  (F:∀ (w:aO) (mg:Str->Option ad) (fa:Addr) (h:a9),(K w.params).In h->h.Ns a8 mg->mg d.name=some (.ref fa) ->
   ∃ fd:dw,(∀ (s:ai) (u:ad),BindsTo s fd ⟨[u],[]⟩ [(x,u)]) /\
    ∀ base:a9,(K w.params).In base->base.Ns a8 mg->FnOk l.prog w (K w.params) mg base (CX w) k fa fd [x] (sp w))
  (hsp:∀ (w:aO) (H:Hp) (a:Addr) (ns:List Int),ns.length<=n->Only H->SqL (K w.params) H a (ns.map V.int)->sp w [.ref a] H (λv _=>v=.bl true) λ_ _ _=>False)
  (hCX:∀ (w:aO) (H:Hp) (s:ai) (e:ad) (s':ai),CX w [] H s (λ_ _ _=>False) e s'->False) :
  PySem.W.WalkO q loose XP YP l.row.toRowW d [] (λf vs=>PySem.call f vs):=by
 refine Att.attach_call hn hdf λw s₀ j mg Z fa o pm cd doc a vs ns G Y ho hd L B z hints hlen J=>?_;have D:=hY w _ Y;obtain⟨fd,N,U⟩:=F w mg fa _ D G.T.g B;exact dQr D G.T.g G.T.b G.T.builtins G.T.nolimit J z hints (Nat.le_trans hlen hn2) hr U N (λH R O=>hsp w H a ns hlen R O) λH e s'=>hCX w H j e s'
def aXa (s:Stmt):Arguments:=match s with
 | .FunctionDef _ a _ _ _ _ _ _ _ _=>a
 | _=>{ posonlyargs:=[],args:=[],vararg:=none,kwonlyargs:=[],kw_defaults:=[],kwarg:=none,defaults:=[] }
def aZk (s:Stmt):List Stmt:=match s with
 | .FunctionDef _ _ b _ _ _ _ _ _ _=>b
 | _=>[]
def aQ4 (s:Stmt):Scope:=match s with
 | .FunctionDef _ _ _ _ _ _ sc _ _ _=>sc
 | _=>{ kind:=.function,names:=[],isGenerator:=false,isCoroutine:=false }
abbrev CX0:CXT:=λ_ _ _ _ _ _=>False
abbrev E0:XK:=λ_ _ _=>False
theorem fZx {X:Cx}:cX2 CX0 X E0:=λ_ _ _ _ _ _ _ h=>h.elim
structure Fun (K:ap) (x qual:Str) (st:Stmt) (f:Addr) (fd:dw):Prop where
 ex:∃ (oc:ad) (od:Option Addr) (kV doc pm:ad) (an:Option Addr) (cdv ct:ad) (osl:Array (Option ad)),
  fd=d5 x qual (aXa st) (aZk st) (aQ4 st) .none kV doc pm an cdv ct/\K.lookup f=some ⟨oc,od,.func fd,osl⟩/\fV K cdv qual=true
 kp:e7 K (.ref f)=true
section
variable {P:aC} {w:aO} {K:ap} {mg:Str->Option ad} {base:a9}
theorem Fun.ok {x qual:Str} {st:Stmt} {f:Addr} {fd:dw} {N ps:List Str} {k:Nat} {sp:Sp} (F:Fun K x qual st f fd) (S:FnScope N ps (aQ4 st)) (len:∀ vs H Q E,sp vs H Q E->vs.length=ps.length)
  (hbody:∀ (cdv:ad) (A:aY) (outer:List Env) (s:ai) (H:Hp) (vs:List V) (Q:VK) (E:XK),Room k (A.deeper (iu qual (aQ4 st) s.heap.objs.size f cdv))->sp vs H Q E ->
   ∃ t,PSs (cxOf CX0 P w K mg base N qual (aQ4 st) f cdv A outer s H E).nox (aZk st) t/\t { nx:=λ_ H'=>Q .non H',rt:=Q } (start N vs) H):FnOk P w K mg base CX0 (k + 1) f fd ps sp:=by
 obtain⟨oc,G,kV,doc,pm,an,cdv,ct,B,rfl,lk,z⟩:=F.ex;refine fZt lk z S len λA outer s H vs Q E D j=>?_;obtain⟨t,h,q⟩:=hbody cdv A outer s H vs Q E D j;exact⟨t,h.nox,q⟩
theorem Fun.binds {x qual:Str} {st:Stmt} {f:Addr} {fd:dw} {ps:List Str} (F:Fun K x qual st f fd)
  (h:∀ (kV doc pm:ad) (an:Option Addr) (cdv ct:ad) (us:List ad),us.length=ps.length->bindArgs (d5 x qual (aXa st) (aZk st) (aQ4 st) .none kV doc pm an cdv ct) ⟨us,[]⟩=pure (ps.zip us)):Binds K fd ps []:=by
 obtain⟨oc,z,kV,doc,pm,an,cdv,ct,j,rfl,lk,q⟩:=F.ex;exact .all (h kV doc pm an cdv ct)
theorem dXc {x qual:Str} {st:Stmt} {f:Addr} {oc:ad} {od an:Option Addr} {osl:Array (Option ad)} {kV doc pm cdv ct:ad} (l:K.lookup f=some ⟨oc,od,.func (d5 x qual (aXa st) (aZk st) (aQ4 st) .none kV doc pm an cdv ct),osl⟩)
  (c:fV K cdv qual=true) (k:e7 K (.ref f)=true):Fun K x qual st f (d5 x qual (aXa st) (aZk st) (aQ4 st) .none kV doc pm an cdv ct):=⟨⟨oc,od,kV,doc,pm,an,cdv,ct,osl,rfl,l,c⟩,k⟩
end
theorem iteF {A B:Prop} (h:B):if false=true then A else B:=by
 rw[if_neg b8];exact h
theorem ite2 {c A B:Prop} [Decidable c] (h1:c->A) (h2:¬ c->B):if c then A else B:=by
 by_cases h:c
 ·rw[if_pos h];exact h1 h
 ·rw[if_neg h];exact h2 h
def Same (H H':Hp):Prop:=∀ b o,H b=some o->H' b=some o
end L2
set_option maxHeartbeats 4000000
namespace L2
open PySem PySem.Spec PyProof.Rows
theorem aXo (env:Env):∀ (names:List (Str × eT)) (acc:List (Str × Addr)),(∀ x,(x,aX)∈names->∃ c,env.cells.lookup x=some c)->(∀ x c,acc.lookup x=some c->env.cells.lookup x=some c) ->
  ∃ cl,(forIn names acc λ(y:Str × eT) (cs:List (Str × Addr))=>(if (y.2 == aX)=true then do let a <- cellOf env y.1;pure (bn ((y.1,a)::cs)) else pure (bn cs):Sem (ForInStep (List (Str × Addr)))))=pure cl /\
   (∀ x c,cl.lookup x=some c->env.cells.lookup x=some c)/\(∀ x,((x,aX)∈names\/(acc.lookup x).isSome=true)->(cl.lookup x).isSome=true)
 | [],acc,_,q=>⟨acc,by rfl,q,λx h=>by
   rcases h with h | h
   ·cases h
   ·exact h⟩
 | (n,k)::rest,acc,hn,q=>by
  by_cases hk:(k == aX)=true
  ·have z:k=aX:=by cases k <;> first | rfl | cases hk
   subst z;obtain⟨c,B⟩:=hn n ao;obtain⟨cl,e,h1,h2⟩:=aXo env rest ((n,c)::acc) (λx hx=>hn x (aq _ hx)) (λx d hx=>by
    simp only[cL] at hx
    by_cases j:(x == n)=true
    ·rw[j] at hx;cases hx;rw[gu j];exact B
    ·rw[d7.mpr j] at hx;exact q x d hx)
   refine⟨cl,?_,h1,λx hx=>h2 x ?_⟩
   ·rw[fI];have D:cellOf env n=pure c:=by unfold cellOf;rw[B]
    simp only[hk,if_true,D,iJ];exact e
   ·rcases hx with hx | hx
    ·rcases aB.mp hx with hx | hx
     ·cases hx;right;simp
     ·exact .inl hx
    ·right
     simp only[cL];cases x == n <;> simp[hx]
  ·obtain⟨cl,e,h1,h2⟩:=aXo env rest acc (λx hx=>hn x (aq _ hx)) q;refine⟨cl,?_,h1,λx hx=>h2 x ?_⟩
   ·rw[fI];simp only[hk,if_false,iJ,aL];exact e
   ·rcases hx with hx | hx
    ·rcases aB.mp hx with hx | hx
     ·cases hx;exact absurd rfl hk
     ·exact .inl hx
    ·exact .inr hx
inductive Cap (N:List Str) (sc:Scope):List Str->List (Option Nat)->Prop
 | nil:Cap N sc [] []
 | own {x xs is}:Cap N sc xs is->Cap N sc (x::xs) (none::is)
 | cap {x xs is i}:N[i]?=some x->(x,aX)∈sc.names->Cap N sc xs is->Cap N sc (x::xs) (some i::is)
theorem Cap.length {N:List Str} {sc:Scope} {xs:List Str} {is:List (Option Nat)} (c:Cap N sc xs is):xs.length=is.length:=by
 induction c with
 | nil=>rfl
 | own _ j=>simp[j]
 | cap _ _ _ j=>simp[j]
theorem Cap.get {N:List Str} {sc:Scope} {xs:List Str} {is:List (Option Nat)} (c:Cap N sc xs is):∀ {j i:Nat} {x:Str},xs[j]?=some x->is[j]?=some (some i)->N[i]?=some x/\(x,aX)∈sc.names:=by
 induction c with
 | nil=>intro j i x h;simp at h
 | own _ q =>
  intro j i x h1 h2;cases j with
  | zero=>simp at h2
  | succ j=>exact q (by simpa using h1) (by simpa using h2)
 | cap z hf _ q =>
  intro j i x h1 h2;cases j with
  | zero=>simp at h1 h2;subst h1;subst h2;exact⟨z,hf⟩
  | succ j=>exact q (by simpa using h1) (by simpa using h2)
def capt (is:List (Option Nat)) (σ:St):St:=is.map λo=>o.bind λi=>(σ[i]?).join
theorem aZz {sc:Scope} {env:Env}:∀ {names:List (Str × eT)} {x:Str},(names.lookup x=some .cell\/names.lookup x=some .free)->((names.map λ(n,k)=>if (k == aX && env.scope.kind == .function && env.kindOf n == some .cell) then (n,gB) else (n,k)).lookup x=some .cell\/(names.map λ(n,k)=>if (k == aX && env.scope.kind == .function && env.kindOf n == some .cell) then (n,gB) else (n,k)).lookup x=some .free)
 | [],x,h=>by simp at h
 | (n,k)::r,x,h=>by
  simp only[bi]
  by_cases j:(k == aX && env.scope.kind == .function && env.kindOf n == some .cell)=true
  ·rw[if_pos j];simp only[cL] at h ⊢;cases hx:x == n with
   | true=>exact .inl rfl
   | false=>rw[hx] at h;exact aZz (sc:=sc) h
  ·rw[if_neg j];simp only[cL] at h ⊢;cases hx:x == n with
   | true=>rw[hx] at h;exact h
   | false=>rw[hx] at h;exact aZz (sc:=sc) h
theorem aXp {sc:Scope} {env:Env}:∀ {names:List (Str × eT)} {x:Str},((names.map λ(n,k)=>if (k == aX && env.scope.kind == .function && env.kindOf n == some .cell) then (n,gB) else (n,k)).lookup x=some .cell\/(names.map λ(n,k)=>if (k == aX && env.scope.kind == .function && env.kindOf n == some .cell) then (n,gB) else (n,k)).lookup x=some .free)->names.lookup x=some .cell\/names.lookup x=some .free
 | [],x,h=>by simp at h
 | (n,k)::r,x,h=>by
  simp only[bi] at h
  by_cases j:(k == aX && env.scope.kind == .function && env.kindOf n == some .cell)=true
  ·rw[if_pos j] at h;simp only[cL] at h ⊢;cases hx:x == n with
   | true =>
    right
    have:k == aX:=by
     simp only[bm] at j;exact j.1.1
    cases k <;> first | rfl | cases this
   | false=>rw[hx] at h;exact aXp (sc:=sc) h
  ·rw[if_neg j] at h;simp only[cL] at h ⊢;cases hx:x == n with
   | true=>rw[hx] at h;exact h
   | false=>rw[hx] at h;exact aXp (sc:=sc) h
theorem aJq {α β:Type} [BEq α] [LawfulBEq α]:∀ {l:List (α × β)} {x:α} {k:β},l.lookup x=some k->(x,k)∈l
 | (n,j)::r,x,k,h=>by
  simp only[cL] at h;cases hx:x == n with
  | true=>rw[hx] at h;cases h;rw[gu hx];exact ao
  | false=>rw[hx] at h;exact aq _ (aJq h)
def PTs (X:Cx) (ifs:List Expr) (t:TT):Prop :=
 ∀ (pins:List (Addr × Obj)) (s:ai) (σ:St) (H:Hp) (Q:Bool->Hp->Prop),Inv X pins σ H s->t σ H Q ->
  aD (aF X.prog X.w) X.A (forIn ifs true λc r=>if r=true then do let ok <- isTrue c X.env (eval c X.env);pure (bn ok) else pure (bn r)) (TP X pins σ Q) X.xe s
def tYes:TT:=λ_ H Q=>Q true H
theorem dJj {X:Cx}:PTs X [] tYes:=λpins s σ H Q I h=>wpAny_tests_nil ⟨H,I,h⟩
theorem dJk {X:Cx} {c:Expr} {t:TT} (h:PT X c t):PTs X [c] t:=λpins s σ H Q I q=>wpAny_tests_one (h pins s σ H Q I q)
def Wk (σ0 σ2:St):Prop:=σ2.length=σ0.length/\∀ (j:Nat) v,σ0[j]?=some (some v)->σ2[j]?=some (some v)
def okV (names outer:List (Str × eT)):Bool:=names.all λy=>match y.2 with
 | .free=>match outer.lookup y.1 with
  | some .cell=>true
  | some .free=>true
  | _=>false
 | _=>true
theorem eXt {names:List (Str × eT)} {sc:Scope} (h:okV names sc.names=true):∀ y∈names,y.2=.free->Vis sc y.1/\sc.names.lookup y.1≠some .local:=λy j hf=>by
 have:=br.mp h y j
 rw[hf] at this;unfold Vis;cases q:sc.names.lookup y.1 with
 | none=>rw[q] at this;cases this
 | some k=>rw[q] at this;cases k <;> first | (simp;done) | cases this
structure Bs (mg:Str->Option ad):Prop where
 len:mg "len" = none
 range:mg "range" = none
 sorted:mg "sorted" = none
 tuple:mg "tuple" = none
 list:mg "list" = none
 set:mg "set" = none
 sum:mg "sum" = none
 min:mg "min" = none
 max:mg "max" = none
 all:mg "all" = none
 any:mg "any" = none
 isinstance:mg "isinstance" = none
 int:mg "int" = none
 str:mg "str" = none
 bool:mg "bool" = none
 zip:mg "zip" = none
 enumerate:mg "enumerate" = none
theorem eXu:cu "len" = some (.builtin "len"):=by decide +kernel
theorem aJr:cu "sorted" = some (.builtin "sorted"):=by decide +kernel
theorem eXv:cu "min" = some (.builtin "min"):=by decide +kernel
theorem eXw:cu "all" = some (.builtin "all"):=by decide +kernel
theorem eXx:cu "any" = some (.builtin "any"):=by decide +kernel
theorem dQs:cu "tuple" = some (.type "tuple"):=by decide +kernel
theorem cXa:cu "list" = some (.type "list"):=by decide +kernel
theorem dXd:cu "set" = some (.type "set"):=by decide +kernel
structure Df (P:aC) (w:aO) (K:ap) (mg:Str->Option ad) (base:a9) (k:Nat) (x:Str) (ps:List Str) (sp:Sp):Prop where
 ex:∃ (f:Addr) (fd:dw),FnOk P w K mg base CX0 k f fd ps sp/\Binds K fd ps []/\e7 K (.ref f)=true/\mg x=some (.ref f)
theorem Df.mono {P:aC} {w:aO} {K:ap} {mg:Str->Option ad} {base:a9} {j k:Nat} {x:Str} {ps:List Str} {sp:Sp} (D:Df P w K mg base j x ps sp) (h:j<=k):Df P w K mg base k x ps sp:=by
 obtain⟨f,fd,a,b,c,d⟩:=D.ex;exact⟨f,fd,a.mono h,b,c,d⟩
theorem dQt {X:Cx} {k:Nat} {x:Str} {ps:List Str} {sp:Sp} {p pos:Pos} {e:Expr} {es:List Expr} {t:TA} (D:Df X.prog X.w X.K X.mg X.base k x ps sp) (hr:Room k X.A) (hg:Gl X x) (ha:PA X (e::es) t)
  (hdb:(x == ("__debug__" : Str))=false:=by decide) (he:ay (e::es) X.env=(false,eval e X.env)::ay es X.env:=by rfl) (hpl:(cD pos (ay es X.env)).any (·.1)=false:=by rfl) :
  PE X (.Call (.Name x p) (e::es) [] pos) (eXn sp [] E0 t):=by
 obtain⟨f,fd,F,q,j,hm⟩:=D.ex;exact dJc F hr hg hm j q .nil fZx ha hdb he hpl
structure Tx (K:ap) (mg:Str->Option ad) (x:Str) (st:Stmt):Prop where
 ex:∃ (f:Addr) (fd:dw),Fun K x x st f fd/\mg x=some (.ref f)
theorem Tx.df {P:aC} {w:aO} {K:ap} {mg:Str->Option ad} {base:a9} {k:Nat} {x:Str} {st:Stmt} {ps:List Str} {sp:Sp} (T:Tx K mg x st)
  (b:∀ {f:Addr} {fd:dw},Fun K x x st f fd->Binds K fd ps []) (h:∀ {f:Addr} {fd:dw},Fun K x x st f fd->FnOk P w K mg base CX0 k f fd ps sp):Df P w K mg base k x ps sp:=by
 obtain⟨f,fd,F,m⟩:=T.ex;exact⟨f,fd,h F,b F,F.kp,m⟩
theorem tx_mk {K:ap} {h:a9} {mg:Str->Option ad} {x:Str} {st:Stmt} {f:Addr} {od an:Option Addr} {sl:Array (Option ad)} {oc kV dc pm cd ct:ad} (X:K.In h) (G:h.Ns a8 mg)
  (a:bG K a8 x=some (some (.ref f))) (l:K.lookup f=some ⟨oc,od,.func (d5 x x (aXa st) (aZk st) (aQ4 st) .none kV dc pm an cd ct),sl⟩) (c:fV K cd x=true) (k:e7 K (.ref f)=true):Tx K mg x st :=
 ⟨f,_,dXc (st:=st) l c k,PySem.W.mg_of X G a⟩
theorem bs_mk {K:ap} {h:a9} {mg:Str->Option ad} (X:K.In h) (G:h.Ns a8 mg) (a:∀ x∈(["len", "range", "sorted", "tuple", "list", "set", "sum", "min", "max", "all", "any", "isinstance", "int", "str", "bool", "zip", "enumerate"]:List Str),bG K a8 x=some none):Bs mg:=by
 have q:∀ x∈(["len", "range", "sorted", "tuple", "list", "set", "sum", "min", "max", "all", "any", "isinstance", "int", "str", "bool", "zip", "enumerate"]:List Str),mg x=none:=λx j=>g7 X G (a x j);constructor <;> exact q _ (by decide +kernel)
theorem bs_all {K:ap} (z1:bG K a8 "len" = some none) (z2:bG K a8 "range" = some none) (z3:bG K a8 "sorted" = some none) (z4:bG K a8 "tuple" = some none) (z5:bG K a8 "list" = some none) (z6:bG K a8 "set" = some none)
  (z7:bG K a8 "sum" = some none) (z8:bG K a8 "min" = some none) (z9:bG K a8 "max" = some none) (z10:bG K a8 "all" = some none) (z11:bG K a8 "any" = some none) (z12:bG K a8 "isinstance" = some none)
  (z13:bG K a8 "int" = some none) (z14:bG K a8 "str" = some none) (z15:bG K a8 "bool" = some none) (z16:bG K a8 "zip" = some none) (z17:bG K a8 "enumerate" = some none) :
  ∀ x∈(["len", "range", "sorted", "tuple", "list", "set", "sum", "min", "max", "all", "any", "isinstance", "int", "str", "bool", "zip", "enumerate"]:List Str),bG K a8 x=some none:=λx j=>by
 simp only[aB,eG,or_false] at j;rcases j with rfl | rfl | rfl | rfl | rfl | rfl | rfl | rfl | rfl | rfl | rfl | rfl | rfl | rfl | rfl | rfl | rfl <;> assumption
end L2
set_option maxHeartbeats 1000000
namespace L2
open PySem PySem.Spec PyProof.Rows
def bZ6 (ifs:List Expr) (env:Env):Sem Bool:=forIn ifs true λc r=>if r=true then do let ok <- isTrue c env (eval c env);pure (bn ok) else pure (bn r)
def aZh (target:Expr) (ifs:List Expr) (at0:Pos) (m:Sem Unit) (c:Code) (it:ad) (env:Env):Sem Fin :=
 gO at0 >>= λ_=>eV it >>= λr=>match r with
  | none=>pure (.done .next)
  | some v=>eS target it v >>= λ_=>i5 target env v >>= λ_=>bZ6 ifs env >>= λok=>if ok=true then m >>= λ_=>again c else again c
def emitOf (elt:Expr) (acc:ad) (env:Env):Sem Unit:=eval elt env >>= λx=>call (.builtin "list.append") [acc,x] >>= λ_=>pure ()
def innerOf (e:Expr) (iter:Expr) (acc:ad) (env:Env):Sem Unit:=eval iter env >>= λx=>gO iter.pos >>= λ_=>cQ iter env x >>= λx=>fG [x] (pyIter x) >>= λit=>runOwn (.compStart e 1 it acc env) env >>= λ_=>pure ()
theorem aQ8 (elt target iter:Expr) (ifs:List Expr) (scope:Scope) (pos:Pos) (it acc:ad) (env:Env) :
  fE (.ListComp elt [⟨target,iter,ifs,0⟩] scope pos) 0 it acc env=aZh target ifs iter.pos (emitOf elt acc env) (.compLoop (.ListComp elt [⟨target,iter,ifs,0⟩] scope pos) 0 it acc env) it env:=by
 rw[compTurn_list];unfold aZh bZ6 emitOf;refine congrArg _ (funext λ_=>congrArg _ (funext λr=>?_));cases r with
 | none=>rfl
 | some v =>
  refine congrArg _ (funext λ_=>congrArg _ (funext λ_=>congrArg _ (funext λok=>?_)));cases ok <;> rfl
theorem cXb (elt target iter t2 i2:Expr) (ifs ifs2:List Expr) (scope:Scope) (pos:Pos) (it acc:ad) (env:Env) :
  fE (.ListComp elt [⟨target,iter,ifs,0⟩,⟨t2,i2,ifs2,0⟩] scope pos) 0 it acc env=aZh target ifs iter.pos (innerOf (.ListComp elt [⟨target,iter,ifs,0⟩,⟨t2,i2,ifs2,0⟩] scope pos) i2 acc env) (.compLoop (.ListComp elt [⟨target,iter,ifs,0⟩,⟨t2,i2,ifs2,0⟩] scope pos) 0 it acc env) it env:=by
 unfold aZh bZ6 innerOf;show(gO iter.pos >>= λ_=>eV it >>= λr=>_)=_;refine bind_congr λ_=>bind_congr λr=>?_;cases r with
 | none=>rfl
 | some v =>
  show(eS target it v >>= λ_=>i5 target env v >>= λ_=>(forIn ifs true _ >>= λok=>_))=_;refine bind_congr λ_=>bind_congr λ_=>bind_congr λok=>?_;cases ok with
  | false=>rfl
  | true =>
   simp only[bind_assoc,iJ]
   rfl
theorem cXc (elt target iter t2 i2:Expr) (ifs ifs2:List Expr) (scope:Scope) (pos:Pos) (it acc:ad) (env:Env) :
  fE (.ListComp elt [⟨target,iter,ifs,0⟩,⟨t2,i2,ifs2,0⟩] scope pos) 1 it acc env=aZh t2 ifs2 i2.pos (emitOf elt acc env) (.compLoop (.ListComp elt [⟨target,iter,ifs,0⟩,⟨t2,i2,ifs2,0⟩] scope pos) 1 it acc env) it env:=by
 unfold aZh bZ6 emitOf;show(gO i2.pos >>= λ_=>eV it >>= λr=>_)=_;refine bind_congr λ_=>bind_congr λr=>?_;cases r with
 | none=>rfl
 | some v =>
  show(eS t2 it v >>= λ_=>i5 t2 env v >>= λ_=>(forIn ifs2 true _ >>= λok=>_))=_;refine bind_congr λ_=>bind_congr λ_=>bind_congr λok=>?_;cases ok <;> rfl
abbrev TB:=St->Hp->(Hp->Prop)->Prop
def PB (X:Cx) (m:Sem Unit) (t:TB):Prop :=
 ∀ (pins:List (Addr × Obj)) (s:ai) (σ:St) (H:Hp) (N:Hp->Prop),Inv X pins σ H s->t σ H N ->
  aD (aF X.prog X.w) X.A m (λ_ s'=>∃ σ' H',Inv X pins σ' H' s'/\Wk σ σ'/\N H') (λ_ _=>False) s
def eXy (D:Addr) (te:TE):TB:=fun σ H N=>te σ H λy H4=>∃ zs,H4 D=some (.lst zs)/\zs.length < sizeLine/\N (upd H4 D (.lst (zs++[y])))
def dQu (J:It) (σ0:St) (g:TG) (tt:TT) (tb:TB) (Q:Hp->Prop) (H:Hp):Prop :=
 ∃ W:Nat->Nat->Hp->Prop,(∃ m,W 0 m H)/\∀ i m H,W i m H ->
  (J.stop i H/\Q H)\/(J.go i H/\∃ N:Hp->Prop,(∀ H',N H'->∃ m',m' < m/\W (i + 1) m' H') /\
   ∀ x H',J.yld i H x H'->g x σ0 H' fun σ2 H2=>Wk σ0 σ2/\tt σ2 H2 λb H3=>if b=true then tb σ2 H3 N else N H3)
def dXe (wi:TI) (g:TG) (tt:TT) (tb:TB):TB:=fun σ H N=>wi σ H λJ H1=>dQu J σ g tt tb N H1
def cQ5 (is:List (Option Nat)) (wi:TI) (g:TG) (tt:TT) (tb:Addr->TB):TE:=fun σ H Q=>wi σ H λJ H1=>∀ D,H1 D=none->dQu J (capt is σ) g tt (tb D) (Q (.ref D)) (upd H1 D (.lst []))
theorem Wk.refl (σ:St):Wk σ σ:=⟨rfl,λ_ _ h=>h⟩
theorem Wk.trans {a b c:St} (h:Wk a b) (k:Wk b c):Wk a c:=⟨k.1.trans h.1,λj v e=>k.2 j v (h.2 j v e)⟩
theorem dJl {σ:St} {i:Nat} {v:V} (h:σ[i]?=some none):Wk σ (σ.set i (some v)):=by
 refine⟨List.length_set,λj u e=>?_⟩
 by_cases q:j=i
 ·subst q;rw[h] at e;cases e
 ·rw[e6 (cf q)];exact e
section
variable {X:Cx}
theorem aQh {elt:Expr} {te:TE} {D:Addr} (hxe:X.xe=λ_ _=>False) (he:PE X elt te):PB X (emitOf elt (.ref D) X.env) (eXy D te):=by
 intro pins s σ H N I h;unfold emitOf;have h1:=he pins s σ H _ I h;rw[hxe] at h1;refine aa (thn h1 λy s1 ⟨v,H1,J,q,zs,B,j,n⟩=>aa ?_);have h2:=bX4 pins s1 σ H1 (.ref D) [v] (.ref D) [y] (λu L=>u=.non/\N L) J rfl (.cons q .nil) ⟨D,zs,v,rfl,rfl,B,j,rfl,n⟩;rw[hxe] at h2;exact thn h2 λ_ s2 ⟨u,H2,G,_,_,z⟩=>ae ⟨σ,H2,G,Wk.refl σ,z⟩
theorem cQ6 {e target:Expr} {ifs:List Expr} {at0:Pos} {d:Nat} {acc:ad} {it:Addr} {m:Sem Unit} {g:TG} {tt:TT} {tb:TB} {J:It} {fp:List Addr} {tn:Nat->a9->Prop} {Q:Hp->Prop} {R:Result->ai->Prop} {pins:List (Addr × Obj)} {s:ai} {σ:St} {H:Hp}
  (hcalm:X.calm=true) (hxe:X.xe=λ_ _=>False) (hturn:fE e d (.ref it) acc X.env=aZh target ifs at0 m (.compLoop e d (.ref it) acc X.env) (.ref it) X.env)
  (hfr:(gC e d (.ref it) acc X.env).isFrame=false) (hA:X.A.under (gC e d (.ref it) acc X.env)=X.A)
  (T:Turn X.prog X.w X.K target J fp it tn) (hg:PG X target g) (ht:PTs X ifs tt) (hb:PB X m tb)
  (I:Inv X pins σ H s) (st:tn 0 s.heap) (f:∀ b∈fp,FpOk X pins H b) (h:dQu J σ g tt tb Q H)
  (fin:∀ H' s',Inv X pins σ H' s'->(∀ b∈fp,FpOk X pins H' b)->Q H'->R (.ok .next) s') :
  fj (aF X.prog X.w) X.A (.compLoop e d (.ref it) acc X.env) R s:=by
 obtain⟨W,⟨m0,w0⟩,turn⟩:=h;have j:∀ {H':Hp},(∀ b∈fp,H' b=none)->∀ b∈fp,FpOk X pins H' b:=λhn b hb=>⟨hn b hb,(f b hb).2⟩;refine codeAny_loop rfl (λn s'=>∃ i H',Inv X pins σ H' s'/\tn i s'.heap/\(∀ b∈fp,H' b=none)/\W i n H') ?_ m0 ⟨0,H,I,st,λb hb=>(f b hb).1,w0⟩;rintro n s3 ⟨i,H3,I3,O,D,w3⟩;have Z:(aF X.prog X.w).den (.compLoop e d (.ref it) acc X.env)=(fE e d (.ref it) acc X.env).onRaise (λx=>do noteFrame x X.env;theTreesLotGoes x):=by
  show(if (gC e d (.ref it) acc X.env).isFrame=true then _ else _)=_
  rw[hfr];rfl
 rw[Z,hturn,hA];refine wpAny_noted ?_;unfold aZh;refine aa (fA ?_);rcases turn i n H3 w3 with⟨stop,qn⟩ | ⟨go,N,hN,step⟩
 ·refine aa (thn (T.done X rfl rfl rfl hcalm i pins s3 σ H3 _ I3 (j D) O stop) λr s4 ⟨hr,I4⟩=>?_);subst hr;exact ae (fin H3 s4 I4 (j D) qn)
 ·refine aa (thn (T.item X rfl rfl rfl hcalm i pins s3 σ H3 _ I3 (j D) O go) λr s4 ⟨u,hr,h4⟩=>?_);subst hr;refine aa (thn h4 λ_ s5 ⟨x,H5,I5,r5,y5,B,fr5⟩=>?_);have I5':=I5.pinned (j fr5) (T.obj _ _ B);have q5:=hg _ s5 σ H5 x u _ I5' r5 (step x H5 y5);rw[hxe] at q5;refine aa (c6 q5 (λ_ s6 ⟨σ6,H6,I6,L,q6⟩=>?_) λ_ _ z=>z.elim);have Y:=ht _ s6 σ6 H6 _ I6 q6;rw[hxe] at Y;refine aa (c6 Y (λok s7 ⟨H7,I7,Y⟩=>?_) λ_ _ z=>z.elim);have q:∀ {σ8:St} {G:Hp} {U:ai},Inv X (pins++bZz fp s5.heap) σ8 G U->Wk σ σ8->N G->∃ m,m < n/\∃ i H',Inv X pins σ H' U/\tn i U.heap/\(∀ b∈fp,H' b=none)/\W i m H':=λ{σ8 G U} I8 wk n8=>by
   obtain⟨m',hm,w8⟩:=hN G n8;refine⟨m',hm,i + 1,G,I8.unpinned.weak wk.1.symm wk.2,T.keep _ _ _ B λb hb o e=>(I8.pin (b,o) (aU _ (aU _ (aX5 hb e)))).1,λb hb=>?_,w8⟩;obtain⟨o,e,_⟩:=T.obj _ _ B b hb;exact(I8.pin (b,o) (aU _ (aU _ (aX5 hb e)))).2.1
  cases ok with
  | false=>exact ae ⟨rfl,q I7 L Y⟩
  | true =>
   refine aa (c6 (hb _ s7 σ6 H7 N I7 Y) (λ_ U ⟨σ8,G,I8,wk8,n8⟩=>?_) λ_ _ z=>z.elim);exact ae ⟨rfl,q I8 (L.trans wk8) n8⟩
end
section
variable {X:Cx}
theorem cXd {e target iter:Expr} {ifs:List Expr} {it acc:ad} {env:Env} {A:aY} {prog:aC} {w:aO} {R:Result->ai->Prop} {s:ai} (hc:(clausesOf e)[1]?=some ⟨target,iter,ifs,0⟩) (hfr:(fY e 1 it acc env).isFrame=false) (hA:A.under (fY e 1 it acc env)=A)
  (h0:fj (aF prog w) A (.compLoop e 1 it acc env) R s)
  (h:aD (aF prog w) A (pyIter it) (λit' s'=>fj (aF prog w) A (.compLoop e 1 it' acc env) R s') (notedBy (aF prog w) A env λx s'=>R (.error x) s') s) :
  fj (aF prog w) A (.compStart e 1 it acc env) R s:=by
 refine gF ?_;have j:(aF prog w).den (.compStart e 1 it acc env)=(compStart e 1 it acc env).onRaise (λx=>do noteFrame x env;gO theWindowsPlace):=by
  show(if (fY e 1 it acc env).isFrame=true then _ else _)=_
  rw[hfr];rfl
 rw[j,hA];refine wpAny_notedAt ?_;unfold compStart;rw[hc];simp only[Option.elim,bne_self_eq_false,aL,if_false];refine aa (dW (wpAny_ite ?_))
 split
 ·first
   | exact aa (ae (ae (And.intro rfl h0)))
   | exact ae (And.intro rfl h0)
 ·refine aa (c7 ?_);refine aa (fA (aa (c6 h (λit' s' h'=>ae (And.intro rfl h')) λ_ _ x=>x)))
theorem dQv {e t2 i2:Expr} {ifs2:List Expr} {acc:ad} {m:ad->Sem Unit} {wi:TI} {g:TG} {tt:TT} {tb:TB} (hcalm:X.calm=true) (hxe:X.xe=λ_ _=>False) (hc:(clausesOf e)[1]?=some ⟨t2,i2,ifs2,0⟩)
  (hturn:∀ it,fE e 1 (.ref it) acc X.env=aZh t2 ifs2 i2.pos (m acc) (.compLoop e 1 (.ref it) acc X.env) (.ref it) X.env)
  (hi:PI X t2 i2 wi) (hg:PG X t2 g) (ht:PTs X ifs2 tt) (hb:PB X (m acc) tb)
  (hs:∀ x,cQ i2 X.env x=pure x) (hfr:∀ it,(fY e 1 it acc X.env).isFrame=false) (hfr2:∀ it,(gC e 1 it acc X.env).isFrame=false)
  (hA:∀ it,X.A.under (fY e 1 it acc X.env)=X.A) (hA2:∀ it,X.A.under (gC e 1 it acc X.env)=X.A) :
  PB X (innerOf e i2 acc X.env) (dXe wi g tt tb):=by
 intro pins s σ H N I h;unfold innerOf;have h1:=hi pins s σ H _ I h;rw[hxe] at h1;refine aa (thn h1 λv s1 z=>aa (fA (aa (wpAny_of_eq (hs v) (aa (bh (thn z λB s2 q=>?_)))))));obtain⟨it,O,L,J,H2,rfl,D,T,j,f2,q⟩:=q;refine aa (wpAny_runOwn ?_);have loop:fj (aF X.prog X.w) X.A (.compLoop e 1 (.ref it) acc X.env) (λr s'=>match r with
   | .ok f=>aD (aF X.prog X.w) X.A (pure ()) (λ_ s'=>∃ σ' H',Inv X pins σ' H' s'/\Wk σ σ'/\N H') (λ_ _=>False) s'
   | .error x=>cameBackBy (aF X.prog X.w) X.A X.env (λ_ _=>False) x s') s2 :=
  cQ6 hcalm hxe (hturn it) (hfr2 _) (hA2 _) T hg ht hb D j f2 q λH' s' G _ n=>ae ⟨σ,H',G,Wk.refl σ,n⟩
 exact cXd hc (hfr _) (hA _) loop (T.self _ 0 _ _ _ j loop)
end
theorem aXq (env:Env):∀ (names:List (Str × eT)) (acc:List (Str × Addr)),(∀ x,(x,aX)∈names->∃ c,env.cells.lookup x=some c) ->
  ∃ cl,(forIn names acc λ(y:Str × eT) (cs:List (Str × Addr))=>(if (y.2 == aX)=true then do let a <- cellOf env y.1;pure (bn ((y.1,a)::cs)) else pure (bn cs):Sem (ForInStep (List (Str × Addr)))))=pure cl /\
   (∀ x c,cl.lookup x=some c->(x,aX)∈names\/acc.lookup x=some c)
 | [],acc,_=>⟨acc,by rfl,λ_ _ h=>.inr h⟩
 | (n,k)::rest,acc,hn=>by
  by_cases hk:(k == aX)=true
  ·have q:k=aX:=by cases k <;> first | rfl | cases hk
   subst q;obtain⟨c,B⟩:=hn n ao;obtain⟨cl,e,h1⟩:=aXq env rest ((n,c)::acc) (λx j=>hn x (aq _ j));refine⟨cl,?_,λx d j=>?_⟩
   ·rw[fI];have D:cellOf env n=pure c:=by unfold cellOf;rw[B]
    simp only[hk,if_true,D,iJ];exact e
   ·rcases h1 x d j with z | z
    ·exact .inl (aq _ z)
    ·simp only[cL] at z;cases hxn:x == n with
     | true=>rw[gu hxn];exact .inl ao
     | false=>rw[hxn] at z;exact .inr z
  ·obtain⟨cl,e,h1⟩:=aXq env rest acc (λx j=>hn x (aq _ j));refine⟨cl,?_,λx d j=>?_⟩
   ·rw[fI];simp only[hk,if_false,iJ,aL];exact e
   ·rcases h1 x d j with z | z
    ·exact .inl (aq _ z)
    ·exact .inr z
theorem bQd {env:Env} {scope:Scope} (hn:∀ x,(x,aX)∈scope.names->∃ c,env.cells.lookup x=some c) :
  ∃ cl,closureFor scope env=pure cl/\(∀ x c,cl.lookup x=some c->env.cells.lookup x=some c)/\(∀ x,(x,aX)∈scope.names->(cl.lookup x).isSome=true)/\∀ x c,cl.lookup x=some c->(x,aX)∈scope.names:=by
 obtain⟨cl,e,h1,h2⟩:=aXo env scope.names [] hn (λx c h=>by cases h)
 obtain⟨cl',G,B⟩:=aXq env scope.names [] hn;have D:cl=cl':=by
  have:=e.symm.trans G
  injection this
 subst D;refine⟨cl,?_,h1,λx j=>h2 x (.inl j),λx c j=>(B x c j).elim id λz=>by cases z⟩
 have q:closureFor scope env=(forIn scope.names ([]:List (Str × Addr)) λ(y:Str × eT) (cs:List (Str × Addr))=>(if (y.2 == aX)=true then do let a <- cellOf env y.1;pure (bn ((y.1,a)::cs)) else pure (bn cs):Sem (ForInStep (List (Str × Addr))))):=by
  unfold closureFor;exact bind_pure _
 rw[q,e]
def ocl (oc:Option Str) (c:Addr) (cl:List (Str × Addr)):List (Str × Addr):=match oc with
 | none=>cl
 | some x=>(x,c)::cl
def ohp (oc:Option Str) (h:a9):a9:=match oc with
 | none=>h
 | some _=>h.push { cls:=.type "cell",data:=.cell none }
theorem aJs {oc:Option Str} {c d:Addr} {cl:List (Str × Addr)} {x:Str} (h:(ocl oc c cl).lookup x=some d):(oc=some x/\d=c)\/cl.lookup x=some d:=by
 cases oc with
 | none=>exact .inr h
 | some z =>
  unfold ocl at h;simp only[cL] at h;cases hx:x == z with
  | true=>rw[hx] at h;cases h;rw[gu hx];exact .inl ⟨rfl,rfl⟩
  | false=>rw[hx] at h;exact .inr h
theorem cQ7 {oc:Option Str} {c:Addr} {cl:List (Str × Addr)} {x:Str} (h:(cl.lookup x).isSome=true):∃ d,(ocl oc c cl).lookup x=some d:=by
 cases oc with
 | none=>exact cy.mp h
 | some z =>
  unfold ocl;simp only[cL];cases hx:x == z with
  | true=>exact⟨_,rfl⟩
  | false=>exact cy.mp h
theorem dJm {c:Addr} {cl:List (Str × Addr)} {x:Str}:(ocl (some x) c cl).lookup x=some c:=by unfold ocl;simp
theorem bZ7 {oc:Option Str} {h:a9} {b:Addr} {o:Obj} (e:h.get? b=some o):(ohp oc h).get? b=some o:=by
 cases oc with
 | none=>exact e
 | some _=>exact ag _ e
def aQm (X:Cx) (N':List Str) (scope:Scope) (cl:List (Str × Addr)) (C:Addr) (fp:List Addr) (s:ai) (H:Hp) (oc:Option Str):Cx :=
 { X with N:=N',s₀:=s,H₀:=H,env:=jo scope cl C X.env,outer:=X.stack,ex:=fp,fn:=λx=>decide (oc=some x),pn:=[],xe:=λ_ _=>False }
theorem dJn {scope:Scope} {env:Env} {cl:List (Str × Addr)} {M:Model} {A:aY} {E:ad->ai->Prop} {s:ai} {Q:Env->ai->Prop}
  (h:Q { scope:=scope,locals:=s.heap.objs.size,globals:=env.globals,cells:=fQ (s.heap.objs.size + 1) scope.names cl,qual:=env.qual,func:=none,code:=env.code,frame:=env.frame,builtins:=env.builtins } { s with heap:=iK (s.heap.push { cls:=.type "dict",data:=.dict #[] }) scope.names }) :
  aD M A (newFunctionEnv scope env.globals cl [] env.qual none .none (some env)) Q E s:=by
 unfold newFunctionEnv;simp only[Option.isSome_some,if_true];refine aa (wpAny_alloc ?_);refine aa (wpAny_layCells _ (λname kind cells=>by cases hkc:kind == gB <;> simp[hkc]) _ _ _ _ ?_)
 rw[show({ s with heap:=s.heap.push { cls:=.type "dict",data:=.dict #[] } }:ai).heap.objs.size=s.heap.objs.size + 1 from cE ..]
 exact aa (ae (ae h))
section
variable {X:Cx} {pins:List (Addr × Obj)} {σ:St} {H H':Hp} {s s2:ai}
theorem cZe {N':List Str} {scope:Scope} {cl:List (Str × Addr)} {fp:List Addr} {oc:Option Str} (I:Inv X pins σ H s) (hf:∀ b∈fp,FpOk X pins H b) (hfl:∀ b∈fp,b < s.heap.objs.size) (hkind:scope.kind=.function)
  (c1:∀ x c,cl.lookup x=some c->X.env.cells.lookup x=some c) (c2:∀ x,(x,aX)∈scope.names->(cl.lookup x).isSome=true) (hcell:∀ y∈scope.names,y.2=.cell->oc=some y.1) (hun:∀ x,oc=some x->cl.lookup x=none) :
  (aQm X N' scope (ocl oc (s.heap.objs.size + 1) cl) s.heap.objs.size fp s H oc).Ok where
 mod:=I.ok.mod
 kind:=hkind
 glob:=I.ok.glob
 blt:=I.ok.blt
 above:=Nat.le_refl _
 inj:=λx y c h1 h2=>by
  have old:∀ z,cl.lookup z=some (s.heap.objs.size + 1)->False:=λz e=>by
   obtain⟨v,q⟩:=I.cell z _ (c1 z _ e);exact absurd (show s.heap.objs.size + 1 < s.heap.objs.size from q.lt) (Nat.not_lt.mpr (Nat.le_succ _))
  rcases aJs h1 with⟨e1,rfl⟩ | e1 <;> rcases aJs h2 with⟨e2,e⟩ | e2
  ·rw[e1] at e2;exact aR e2
  ·exact(old y e2).elim
  ·subst e;exact(old x e1).elim
  ·exact I.ok.inj x y c (c1 x c e1) (c1 y c e2)
 has:=λx D=>by
  have j:scope.names.lookup x=some .cell\/scope.names.lookup x=some .free:=aXp (sc:=scope) D;rcases j with j | j
  ·have e:=hcell _ (aJq j) rfl;subst e;exact⟨_,dJm⟩
  ·exact cQ7 (c2 x (aJq j))
 cab:=λx c h G=>by
  have h':oc=some x:=of_decide_eq_true h;rcases aJs G with⟨_,rfl⟩ | e
  ·exact Nat.le_succ _
  ·rw[hun x h'] at e;cases e
 hd:=I.ok.hd
 frames:=I.ok.frames
 gd:=I.ok.gd
 stk:=.inl rfl
 exf:=λb B=>⟨Nat.ne_of_lt (hfl b B),λx c e=>by
  rcases aJs e with⟨_,rfl⟩ | e
  ·intro z;exact absurd (show s.heap.objs.size + 1 < s.heap.objs.size from z ▸ hfl b B) (Nat.not_lt.mpr (Nat.le_succ _))
  ·exact(hf b B).2.2.2.2.1 x c (c1 x c e)⟩
 bs:=I.bs
 bsz:=Nat.le_trans I.ok.bsz I.sz
 noex:=λb o e B=>by
  rcases(hf b B).2.2.2.1 with z | z
  ·exact I.ok.noex b o e z
  ·have q:=I.ok.bs b o e;exact absurd (Nat.lt_of_lt_of_le (az q.1) z) (Nat.lt_irrefl _)
 exfs:=λb B z=>by
  rcases aB.mp (I.stkSub b z) with e | e
  ·exact(hf b B).2.1 e
  ·exact(hf b B).2.2.1 e
 funs:=I.stack
 frf:=I.stkFree
theorem bJ6 {N':List Str} {is:List (Option Nat)} {scope:Scope} {cl:List (Str × Addr)} {fp:List Addr} {oc:Option Str} (I:Inv X pins σ H s) (ok:(aQm X N' scope (ocl oc (s.heap.objs.size + 1) cl) s.heap.objs.size fp s H oc).Ok) (hN:X.N.Nodup)
  (c1:∀ x c,cl.lookup x=some c->X.env.cells.lookup x=some c) (c2:∀ x,(x,aX)∈scope.names->(cl.lookup x).isSome=true) (hu:∀ x,(x,aX)∈scope.names->scope.names.lookup x=some .free) (cp:Cap X.N scope N' is)
  (hV:∀ x,(x,aX)∈scope.names->Vis X.env.scope x/\X.env.scope.names.lookup x≠some .local) (hun:∀ x,oc=some x->cl.lookup x=none) :
  Inv (aQm X N' scope (ocl oc (s.heap.objs.size + 1) cl) s.heap.objs.size fp s H oc) [] (capt is σ) H { s with heap:=ohp oc (s.heap.push { cls:=.type "dict",data:=.dict #[] }) }:=by
 have kp:∀ b o,s.heap.get? b=some o->(ohp oc (s.heap.push { cls:=.type "dict",data:=.dict #[] })).get? b=some o:=λb o e=>bZ7 (ag _ e);exact {
 ok:=ok
 os:=rfl
 bare:=I.bare
 base:=Un.kept kp
 loc:=by
  refine⟨_,(a9.Ns.new s.heap (.type "dict")).keeps λb o e=>bZ7 e,λj x v e1 e2 e3=>?_⟩;have U:N'[j]?=some x:=e1;unfold capt at e2;rw[ba] at e2;cases hi:is[j]? with
  | none=>rw[hi] at e2;cases e2
  | some o =>
   rw[hi] at e2;cases o with
   | none=>cases e2
   | some i =>
    obtain⟨Z,B⟩:=cp.get U hi;have e2':(σ[i]?).join=some v:=aR e2;have e4:σ[i]?=some (some v):=by
     cases q:σ[i]? with
     | none=>rw[q] at e2';cases e2'
     | some z=>rw[q] at e2';cases z with
      | none=>cases e2'
      | some z=>cases e2';rfl
    obtain⟨m,hn,hl⟩:=I.loc;obtain⟨G,R⟩:=hV x B;obtain⟨u,r,l⟩:=hl i x v Z e4 G;refine⟨u,r,.inr ⟨aZz (sc:=scope) (.inr (hu x B)),?_⟩⟩;rcases l with⟨k,_⟩ | ⟨k,c,e,z⟩
    ·exact absurd k R
    ·obtain⟨J,Y⟩:=cQ7 (oc:=oc) (c:=s.heap.objs.size + 1) (c2 x B);have ee:J=c:=by
      rcases aJs Y with⟨L,_⟩ | L
      ·have:=c2 x B;rw[hun x L] at this;cases this
      ·have:=c1 x J L;rw[e] at this;exact(aR this).symm
     subst ee;obtain⟨D,O,hd⟩:=z;exact⟨J,Y,D,kp J D O,hd⟩
 cell:=λx c e=>by
  rcases aJs (show(ocl oc (s.heap.objs.size + 1) cl).lookup x=some c from e) with⟨z,rfl⟩ | e
  ·subst z;refine⟨none,{ cls:=.type "cell",data:=.cell none },?_,rfl⟩;show((s.heap.push _).push _).get? _=_;rw[<- cE s.heap { cls:=.type "dict",data:=.dict #[] }];exact ax _ rfl
  ·obtain⟨v,o,ho,hd⟩:=I.cell x c (c1 x c e);exact⟨v,o,kp c o ho,hd⟩
 free:=I.hok.fresh (Nat.le_refl _)
 freeC:=λx c e=>by
  rcases aJs (show(ocl oc (s.heap.objs.size + 1) cl).lookup x=some c from e) with⟨z,rfl⟩ | e
  ·exact I.hok.fresh (Nat.le_succ _)
  ·exact I.freeC x c (c1 x c e)
 pin:=λp hp=>absurd (show p∈([]:List (Addr × Obj)) from hp) (by simp)
 hok:=I.hok.kept kp
 len:=by
  show(capt is σ).length=N'.length;unfold capt;rw[aj,cp.length] }
def FrC (X:Cx) (pins:List (Addr × Obj)) (C:Addr) (H:Hp):Prop:=H C=none/\C≠X.env.locals/\X.s₀.heap.objs.size<=C/\(∀ x c,X.env.cells.lookup x=some c->c≠C)/\∀ p∈X.pn++pins,p.1≠C
theorem FrC.gone {C:Addr} {h':a9} (f:FrC X pins C H) (I:Inv X pins σ H s) (sb:dA C s.heap h'):Inv X pins σ H { s with heap:=h' } :=
 I.turned (t':=s.toks) (λb o j e=>(sb.2 b j).trans e) f.1 f.2.1 (.inr f.2.2.1) f.2.2.2.1 f.2.2.2.2
theorem comp_gen {elt target iter:Expr} {ifs:List Expr} {gs:List iw} {scope:Scope} {pos:Pos} {N':List Str} {is:List (Option Nat)} {wi:TI} {g:TG} {tt:TT} {tb:Addr->TB} {oc:Option Str} {m:ad->Env->Sem Unit} (hcalm:X.calm=true) (hN:X.N.Nodup)
  (hturn:∀ it acc env,fE (.ListComp elt (⟨target,iter,ifs,0⟩::gs) scope pos) 0 it acc env=aZh target ifs iter.pos (m acc env) (.compLoop (.ListComp elt (⟨target,iter,ifs,0⟩::gs) scope pos) 0 it acc env) it env)
  (cp:Cap X.N scope N' is) (hi:PI X target iter wi)
  (hg:∀ cl C fp s H,PG (aQm X N' scope cl C fp s H oc) target g) (ht:∀ cl C fp s H,PTs (aQm X N' scope cl C fp s H oc) ifs tt) (hb:∀ cl C fp s H D,PB (aQm X N' scope cl C fp s H oc) (m (.ref D) (jo scope cl C X.env)) (tb D))
  (hcf:∀ n acc,fQ n scope.names acc=ocl oc n acc) (hpc:∀ h,iK h scope.names=ohp oc h)
  (hkind:scope.kind=.function) (hcell:∀ y∈scope.names,y.2=.cell->oc=some y.1)
  (hu:∀ y∈scope.names,scope.names.lookup y.1=some y.2) (hoc:∀ x,oc=some x->scope.names.lookup x=some .cell)
  (hVb:okV scope.names X.env.scope.names=true)
  (hs:∀ x,cQ iter X.env x=pure x)
  {use:Option (ad->Sem Unit)} {Q:VK} {Qv:ad->ai->Prop} (I:Inv X pins σ H s) (h:cQ5 is wi g tt tb σ H Q)
  (fin:∀ D C H5 s6,Inv X pins σ H5 s6->(∃ m,s6.heap.Ns C m)->FrC X pins C H5->Q (.ref D) H5->compPost (aF X.prog X.w) X.A X.xe use Qv (.ref D) C (.ok .next) s6) :
  aD (aF X.prog X.w) X.A (comprehension (.ListComp elt (⟨target,iter,ifs,0⟩::gs) scope pos) scope X.env (firstIterPos (⟨target,iter,ifs,0⟩::gs) pos) (newList []) (firstAsync (⟨target,iter,ifs,0⟩::gs)) (firstIter (⟨target,iter,ifs,0⟩::gs) X.env) use) Qv X.xe s:=by
 have hV:=eXt hVb;have hV':∀ x,(x,aX)∈scope.names->Vis X.env.scope x/\X.env.scope.names.lookup x≠some .local:=λx j=>hV (x,.free) j rfl;have hu':∀ x,(x,aX)∈scope.names->scope.names.lookup x=some .free:=λx j=>hu (x,.free) j;have B:∀ x∈scope.names,x.2=.local->scope.names.lookup x.1=some .local:=λx j hl=>by rw[hu x j,hl]
 obtain⟨cl,L,c1,c2,c3⟩:=bQd (env:=X.env) (scope:=scope) λx j=>I.ok.has x (by
  obtain⟨v,n⟩:=hV' x j;rcases v with v | v | v
  ·exact absurd v n
  ·exact .inl v
  ·exact .inr v)
 have hun:∀ x,oc=some x->cl.lookup x=none:=λx j=>by
  cases e:cl.lookup x with
  | none=>rfl
  | some c =>
   have:=hu' x (c3 x c e)
   rw[hoc x j] at this;cases this
 refine wpAny_comprehension_free (use:=use) rfl hs L hkind B (thn (hi pins s σ H _ I h) λv s1 h1=>thn h1 λitv s2 h2=>?_);obtain⟨it,fp,tn,J,H2,rfl,I2,T,st2,f2,q2⟩:=h2;refine bA ?_;have hD:H2 s2.heap.objs.size=none:=I2.hok.fresh (Nat.le_refl _);have fpl:∀ b∈fp,b < s2.heap.objs.size:=λb hb=>by obtain⟨o,e,_⟩:=T.obj _ _ st2 b hb;exact az e
 have O:Inv X pins σ (upd H2 s2.heap.objs.size (.lst [])) { s2 with heap:=s2.heap.push { cls:=.type "list",dict:=none,data:=.seq ([]:List ad).toArray } } :=
  I2.laid (t':=s2.toks) (λb u e=>ag _ e) (Nat.le_refl _) ⟨Nat.zero_le _,[],0,.nil,ax _ rfl⟩
 have st3:tn 0 (s2.heap.push { cls:=.type "list",dict:=none,data:=.seq ([]:List ad).toArray }):=T.keep _ _ _ st2 λb hb o e=>ag _ e;have U:∀ b∈fp,FpOk X pins (upd H2 s2.heap.objs.size (.lst [])) b:=λb hb=>⟨by rw[upd_ne (Nat.ne_of_lt (fpl b hb))];exact(f2 b hb).1,(f2 b hb).2⟩
 have G:∀ b∈fp,b < (s2.heap.push { cls:=.type "list",dict:=none,data:=.seq ([]:List ad).toArray }).objs.size:=λb hb=>by rw[cE];exact Nat.lt_succ_of_lt (fpl b hb)
 have q3:=q2 _ hD;generalize hDe:s2.heap.objs.size=D at *
 generalize hs3:({ s2 with heap:=s2.heap.push { cls:=.type "list",dict:=none,data:=.seq ([]:List ad).toArray } }:ai)=s3 at *
 have hsh:s3.heap=s2.heap.push { cls:=.type "list",dict:=none,data:=.seq ([]:List ad).toArray }:=by rw[<- hs3]
 rw[<- hsh] at st3 G;have ok:=cZe (N':=N') (cl:=cl) (oc:=oc) O U G hkind c1 c2 hcell hun;have I4:=bJ6 O ok hN c1 c2 hu' cp hV' hun;refine dJn ?_;rw[hcf,hpc];have kp:∀ b o,s3.heap.get? b=some o->(ohp oc (s3.heap.push { cls:=.type "dict",data:=.dict #[] })).get? b=some o:=λb o e=>bZ7 (ag _ e);have Z:tn 0 (ohp oc (s3.heap.push { cls:=.type "dict",data:=.dict #[] })):=T.keep _ _ _ st3 λb _ o e=>kp b o e;have f4:∀ b∈fp,FpOk (aQm X N' scope (ocl oc (s3.heap.objs.size + 1) cl) s3.heap.objs.size fp s3 (upd H2 D (.lst [])) oc) [] (upd H2 D (.lst [])) b:=λb hb =>
  ⟨(U b hb).1,(ok.exf b hb).1,ok.exfs b hb,.inl hb,(ok.exf b hb).2,λp hp=>absurd (show p∈([]:List (Addr × Obj)) from hp) (by simp)⟩
 have loop:=cQ6 (X:=aQm X N' scope (ocl oc (s3.heap.objs.size + 1) cl) s3.heap.objs.size fp s3 (upd H2 D (.lst [])) oc) (e:=.ListComp elt (⟨target,iter,ifs,0⟩::gs) scope pos) (d:=0) (acc:=.ref D)
  (R:=compPost (aF X.prog X.w) X.A X.xe use Qv (.ref D) s3.heap.objs.size) hcalm rfl (hturn _ _ _) rfl rfl T (hg _ _ _ _ _) (ht _ _ _ _ _) (hb _ _ _ _ _ D) I4 Z f4 q3 (by
   intro H5 s6 Y _ qn;obtain⟨m6,n6,_⟩:=id Y.loc;have un:Un (frs X.stack) fp (upd H2 D (.lst [])) H5 s3.heap s6.heap:=Y.base;have hok':HOk X.prog X.w H5 s6.heap:=Y.hok;refine fin D s3.heap.objs.size H5 s6 (O.call' (s':=s6) (ch:=fp) Y.os un hok' Y.bare λb hb=>⟨(U b hb).2.2.2.1,(U b hb).2.1,(U b hb).2.2.2.2.1,(U b hb).2.2.2.2.2⟩) ⟨m6,n6⟩ ⟨Y.free,Nat.ne_of_gt O.lt,O.sz,λx c e z=>?_,λp hp z=>?_⟩ qn
   ·obtain⟨v,q⟩:=O.cell x c e;exact absurd q.lt (by rw[z];exact Nat.lt_irrefl _)
   ·exact absurd (az (O.pin p hp).1) (by rw[z];exact Nat.lt_irrefl _))
 exact codeAny_compStart_list loop (T.self _ 0 _ _ _ Z loop)
theorem dQw {elt target iter:Expr} {ifs:List Expr} {gs:List iw} {scope:Scope} {pos:Pos} {N':List Str} {is:List (Option Nat)} {wi:TI} {g:TG} {tt:TT} {tb:Addr->TB} {oc:Option Str} {m:ad->Env->Sem Unit} (hcalm:X.calm=true) (hN:X.N.Nodup)
  (hturn:∀ it acc env,fE (.ListComp elt (⟨target,iter,ifs,0⟩::gs) scope pos) 0 it acc env=aZh target ifs iter.pos (m acc env) (.compLoop (.ListComp elt (⟨target,iter,ifs,0⟩::gs) scope pos) 0 it acc env) it env)
  (cp:Cap X.N scope N' is) (hi:PI X target iter wi)
  (hg:∀ cl C fp s H,PG (aQm X N' scope cl C fp s H oc) target g) (ht:∀ cl C fp s H,PTs (aQm X N' scope cl C fp s H oc) ifs tt) (hb:∀ cl C fp s H D,PB (aQm X N' scope cl C fp s H oc) (m (.ref D) (jo scope cl C X.env)) (tb D))
  (hcf:∀ n acc,fQ n scope.names acc=ocl oc n acc:=by intro _ _;rfl) (hpc:∀ h,iK h scope.names=ohp oc h:=by intro _;rfl)
  (hkind:scope.kind=.function:=by rfl) (hcell:∀ y∈scope.names,y.2=.cell->oc=some y.1:=by decide +kernel)
  (hu:∀ y∈scope.names,scope.names.lookup y.1=some y.2:=by decide +kernel) (hoc:∀ x,oc=some x->scope.names.lookup x=some .cell:=by intro x h;cases h <;> rfl)
  (hVb:okV scope.names X.env.scope.names=true:=by first | rfl | kernel_rfl)
  (hs:∀ x,cQ iter X.env x=pure x:=by intro _;rfl) :
  PE X (.ListComp elt (⟨target,iter,ifs,0⟩::gs) scope pos) (cQ5 is wi g tt tb):=by
 intro pins s σ H Q I h;rw[eval_ListComp];refine comp_gen hcalm hN hturn cp hi hg ht hb hcf hpc hkind hcell hu hoc hVb hs I h λD C G J B ⟨m,n⟩ z q=>?_;exact⟨m,n,λh' j=>⟨.ref D,G,z.gone B j,rfl,q⟩⟩
theorem dJo {x:Str} {i:Nat} {pos' spos:Pos} (hix:X.N[i]?=some x) (hx:Loc X.env.scope x) {elt target iter:Expr} {ifs:List Expr} {gs:List iw} {scope:Scope} {pos:Pos} {N':List Str} {is:List (Option Nat)} {wi:TI} {g:TG} {tt:TT} {tb:Addr->TB} {oc:Option Str} {m:ad->Env->Sem Unit} (hcalm:X.calm=true) (hN:X.N.Nodup)
  (hturn:∀ it acc env,fE (.ListComp elt (⟨target,iter,ifs,0⟩::gs) scope pos) 0 it acc env=aZh target ifs iter.pos (m acc env) (.compLoop (.ListComp elt (⟨target,iter,ifs,0⟩::gs) scope pos) 0 it acc env) it env)
  (cp:Cap X.N scope N' is) (hi:PI X target iter wi)
  (hg:∀ cl C fp s H,PG (aQm X N' scope cl C fp s H oc) target g) (ht:∀ cl C fp s H,PTs (aQm X N' scope cl C fp s H oc) ifs tt) (hb:∀ cl C fp s H D,PB (aQm X N' scope cl C fp s H oc) (m (.ref D) (jo scope cl C X.env)) (tb D))
  (hcf:∀ n acc,fQ n scope.names acc=ocl oc n acc:=by intro _ _;rfl) (hpc:∀ h,iK h scope.names=ohp oc h:=by intro _;rfl)
  (hkind:scope.kind=.function:=by rfl) (hcell:∀ y∈scope.names,y.2=.cell->oc=some y.1:=by decide +kernel)
  (hu:∀ y∈scope.names,scope.names.lookup y.1=some y.2:=by decide +kernel) (hoc:∀ x,oc=some x->scope.names.lookup x=some .cell:=by intro x h;cases h <;> rfl)
  (hVb:okV scope.names X.env.scope.names=true:=by first | rfl | kernel_rfl)
  (hs:∀ x,cQ iter X.env x=pure x:=by intro _;rfl)
  (hsw:iG (.ListComp elt (⟨target,iter,ifs,0⟩::gs) scope pos) (some (.Name x pos')) spos.line X.env=pure true:=by first | rfl | kernel_rfl) (hf:X.fn x=true\/X.env.scope.names.lookup x=some .local:=by first | exact .inl rfl | exact .inr rfl | assumption) :
  PS X (.Assign [.Name x pos'] (.ListComp elt (⟨target,iter,ifs,0⟩::gs) scope pos) spos) (tAsg (cQ5 is wi g tt tb) (bJ2 i)):=by
 intro pins s σ H D I h;rw[exec_Assign_Name_used _ _ _ _ hsw];refine aa (fA (aa ?_));show aD _ _ (comprehension _ _ _ _ _ _ _ (some _) >>= λ_=>pure ()) _ _ _;refine aa (comp_gen (Qv:=λ_ s'=>aD (aF X.prog X.w) X.A (pure ()) _ X.xe s') hcalm hN hturn cp hi hg ht hb hcf hpc hkind hcell hu hoc hVb hs I h λE C U Z R ⟨m,n⟩ B J=>?_);refine wpAny_assign_Name (bZy R hN hix hx (show RelV (.ref E) (.ref E) from rfl) (λY O ⟨a,G,L⟩=>?_) hf)
 have q:C≠a:=by
  rintro rfl;rcases L with z | z
  ·exact B.2.1 z
  ·exact B.2.2.2.1 x C z rfl
 refine⟨m,n.sameBut G q,λh' j=>ae (ae ?_)⟩;exact⟨_,U,B.gone O j,J⟩
end
end L2
set_option maxHeartbeats 4000000
namespace L2
open PySem PySem.Spec PyProof.Rows
abbrev Dn (α:Type):=Hp->V->α->Prop
abbrev Fg:=ap
def dS:Dn Str:=λ_ v x=>v=.str x
def dB:Dn Bool:=λ_ v b=>v=.bl b
def dT {α:Type} (K:Fg) (R:Dn α):Dn (List α):=λH v ds=>∃ a xs,v=.ref a/\SqT K H a xs/\bb (R H) xs ds
def dL {α:Type} (K:Fg) (R:Dn α):Dn (List α):=λH v ds=>∃ a xs,v=.ref a/\SqL K H a xs/\bb (R H) xs ds
def SameT (H H':Hp):Prop:=∀ a xs,Rd H a (.tup xs)->Rd H' a (.tup xs)
theorem Same.t {H H':Hp} (h:Same H H'):SameT H H':=λa xs r=>by
 rcases r with r | ⟨o,r⟩
 ·exact .inl (h _ _ r)
 ·exact .inr ⟨o,h _ _ r⟩
theorem aQw {H:Hp} {p:Addr} {o:HO} (h:H p=none):Same H (upd H p o):=λb o' e=>by
 rw[upd_ne (by rintro rfl;rw[h] at e;cases e)];exact e
theorem SqT.stay {K:Fg} {H H':Hp} {a:Addr} {xs:List V} (h:SqT K H a xs) (s:SameT H H'):SqT K H' a xs:=h.elim (λr=>.inl (s a xs r)) .inr
class Im {α:Type} (R:Dn α):Prop where
 im:∀ {H H' v d},SameT H H'->R H v d->R H' v d
class Mo {α:Type} (R:Dn α):Prop where
 mo:∀ {H H' v d},Same H H'->R H v d->R H' v d
instance (priority:=low) {α:Type} {R:Dn α} [Im R]:Mo R:=⟨λs r=>Im.im s.t r⟩
theorem Paired.imp {α β:Type} {F G:α->β->Prop} (h:∀ a b,F a b->G a b):∀ {l:List α} {m:List β},bb F l m->bb G l m
 | _,_,.nil=>.nil
 | _,_,.cons p q=>.cons (h _ _ p) (Paired.imp h q)
instance:Im dS:=⟨λ_ h=>h⟩
instance {α:Type} {K:Fg} {R:Dn α} [Im R]:Im (dT K R):=⟨λs ⟨a,xs,e,q,p⟩=>⟨a,xs,e,q.stay s,Paired.imp (λ_ _ r=>Im.im s r) p⟩⟩
theorem beq_dec {α:Type} [DecidableEq α] [BEq α] [LawfulBEq α] (a b:α):(a == b)=decide (a=b):=by
 by_cases h:a=b
 ·subst h;simp
 ·simp[h]
theorem Paired.get' {α β:Type} {F:α->β->Prop}:∀ {l:List α} {m:List β} {i:Nat} {a:α},bb F l m->l[i]?=some a->∃ b,m[i]?=some b/\F a b
 | _,_,_,_,.nil,h=>by simp at h
 | _,_,0,_,.cons p _,h=>by simp at h;subst h;exact⟨_,rfl,p⟩
 | _,_,i + 1,a,.cons _ q,h=>by
  obtain⟨b,e,f⟩:=Paired.get' (i:=i) (a:=a) q (by simpa using h)
  exact⟨b,by simpa using e,f⟩
theorem eXz {α:Type} [DecidableEq α]:∀ (ds es:List α),((aT (min ds.length es.length)).all λj=>decide (ds[j]?=es[j]?))=true->ds.length=es.length->ds=es:=λds es h hl=>by
 apply d8;intro i
 by_cases hi:i < ds.length
 ·have:=br.mp h i (aP.mpr (by lia))
  exact of_decide_eq_true this
 ·rw[bu (by lia),bu (by lia)]
theorem cXe {α:Type} [DecidableEq α] (ds es:List α) (n m:Nat) (hn:n=ds.length) (hm:m=es.length):((aT (min n m)).all (λj=>decide (ds[j]?=es[j]?)) && (n == m))=decide (ds=es):=by
 subst hn;subst hm
 by_cases h:ds=es
 ·subst h;simp
 ·rw[decide_eq_false h,Bool.and_eq_false_iff]
  by_cases hl:ds.length=es.length
  ·left
   cases q:(aT (min ds.length es.length)).all λj=>decide (ds[j]?=es[j]?) with
   | false=>rfl
   | true=>exact absurd (eXz ds es q hl) h
  ·right;simpa using hl
variable {α β γ:Type}
end L2
namespace ST
open PySem PySem.SetTable
def step (mask:Nat) (p:Probe):Probe :=
 if p.more > 0 then { p with j:=p.j + 1,more:=p.more - 1 } else
 { p with j:=(leap mask p.i p.perturb).1,more:=runEnd mask (leap mask p.i p.perturb).1 - (leap mask p.i p.perturb).1,i:=(leap mask p.i p.perturb).1,perturb:=(leap mask p.i p.perturb).2 }
theorem bQp (t:aS) (p:Probe):t.advance p=step t.mask p:=by
 unfold aS.advance step
 split <;> rfl
def road (mask:Nat):Nat->Probe->Probe
 | 0,p=>p
 | m + 1,p=>road mask m (step mask p)
theorem aJt (mask:Nat):∀ (m:Nat) (p:Probe),road mask (m + 1) p=step mask (road mask m p)
 | 0,_=>rfl
 | m + 1,p=>by
  show road mask (m + 1) (step mask p)=step mask (road mask m (step mask p));exact aJt mask m (step mask p)
theorem aQx (mask:Nat):∀ (a b:Nat) (p:Probe),road mask (a + b) p=road mask b (road mask a p)
 | 0,b,p=>by rw[Nat.zero_add];rfl
 | a + 1,b,p=>by
  rw[Nat.add_right_comm];show road mask (a + b) (step mask p)=road mask b (road mask a (step mask p));exact aQx mask a b _
theorem bQq (mask:Nat) (p:Probe):(step mask p).dummy=p.dummy:=by unfold step;split <;> rfl
theorem aJu (mask i:Nat) (h:i<=mask):i<=runEnd mask i/\runEnd mask i<=mask/\runEnd mask i<=i + 9:=by
 unfold runEnd;split <;> lia
structure PV (mask:Nat) (p:Probe):Prop where
 more:p.more<=9
 i:p.i<=mask
 j:p.j + p.more<=mask
 pt:p.perturb < 2 ^ 64
theorem bJ7 (mask i pt:Nat):(leap mask i pt).1<=mask:=by
 unfold leap
 have:=Nat.mod_lt (i * 5 + 1 + pt / 32) (show 0 < mask + 1 by lia)
 show(i * 5 + 1 + pt / 32) % (mask + 1)<=mask;lia
theorem PV.step {mask:Nat} {p:Probe} (v:PV mask p):PV mask (ST.step mask p):=by
 unfold ST.step;have h1:=v.more;have h2:=v.i;have z:=v.j;have q:=v.pt
 split
 ·exact⟨by dsimp only;lia,h2,by dsimp only;lia,q⟩
 ·have l:=bJ7 mask p.i p.perturb;have r:=aJu mask _ l;refine⟨by dsimp only;lia,l,by dsimp only;lia,?_⟩
  show p.perturb / 32 < 2 ^ 64;exact Nat.lt_of_le_of_lt (Nat.div_le_self _ _) q
theorem PV.road {mask:Nat}:∀ (m:Nat) {p:Probe},PV mask p->PV mask (ST.road mask m p)
 | 0,_,v=>v
 | m + 1,_,v=>PV.road m v.step
theorem dJp (h:Int):bits h < 2 ^ 64:=by
 unfold bits;have h1:=Int.emod_nonneg h (show(2 ^ 64:Int)≠0 by decide)
 have h2:=Int.emod_lt_of_pos h (show(0:Int) < 2 ^ 64 by decide)
 have:(2:Int) ^ 64=18446744073709551616:=by decide
 have:(2:Nat) ^ 64=18446744073709551616:=by decide
 lia
def start (mask:Nat) (h:Int):Probe:={ j:=bits h % (mask + 1),more:=runEnd mask (bits h % (mask + 1)) - bits h % (mask + 1),i:=bits h % (mask + 1),perturb:=bits h,dummy:=none }
theorem aXh (mask:Nat) (h:Int):PV mask (start mask h):=by
 have l:bits h % (mask + 1)<=mask:=Nat.le_of_lt_succ (Nat.mod_lt _ (Nat.succ_pos mask));have r:=aJu mask _ l;exact⟨by show _ - _<=9;lia,l,by show bits h % (mask + 1) + (runEnd mask (bits h % (mask + 1)) - bits h % (mask + 1))<=mask;lia,dJp h⟩
theorem cXf (mask:Nat):∀ (k:Nat) (p:Probe),k<=p.more->road mask k p={ p with j:=p.j + k,more:=p.more - k }
 | 0,p,_=>rfl
 | k + 1,p,h=>by
  show road mask k (step mask p)=_;have e:step mask p={ p with j:=p.j + 1,more:=p.more - 1 }:=by unfold step;rw[if_pos (by lia)]
  rw[e,cXf mask k _ (by show k<=p.more - 1;lia)]
  show({ j:=p.j + 1 + k,more:=p.more - 1 - k,i:=p.i,perturb:=p.perturb,dummy:=p.dummy }:Probe)={ j:=p.j + (k + 1),more:=p.more - (k + 1),i:=p.i,perturb:=p.perturb,dummy:=p.dummy };rw[show p.j + 1 + k=p.j + (k + 1) by lia,show p.more - 1 - k=p.more - (k + 1) by lia]
theorem cXg (mask:Nat) (p:Probe):road mask (p.more + 1) p={ p with j:=(leap mask p.i p.perturb).1,more:=runEnd mask (leap mask p.i p.perturb).1 - (leap mask p.i p.perturb).1,i:=(leap mask p.i p.perturb).1,perturb:=(leap mask p.i p.perturb).2 }:=by
 rw[aJt,cXf mask p.more p (Nat.le_refl _)];unfold step;rw[if_neg (by show ¬ p.more - p.more > 0;lia)]
def aZl (mask:Nat):Nat->Nat × Nat->Nat × Nat
 | 0,s=>s
 | l + 1,s=>aZl mask l (leap mask s.1 s.2)
theorem aZo (mask:Nat):∀ (l:Nat) (s:Nat × Nat),aZl mask (l + 1) s=leap mask (aZl mask l s).1 (aZl mask l s).2
 | 0,_=>rfl
 | l + 1,s=>by
  show aZl mask (l + 1) (leap mask s.1 s.2)=_;exact aZo mask l _
theorem bZ8 (mask:Nat):∀ (l:Nat) (s:Nat × Nat),(aZl mask l s).2=s.2 / 32 ^ l
 | 0,s=>by simp[aZl]
 | l + 1,s=>by
  rw[aZo];show(aZl mask l s).2 / 32=_;rw[bZ8 mask l s,Nat.div_div_eq_div_mul,Nat.pow_succ]
theorem far (mask:Nat):∀ (l:Nat) (p:Probe),PV mask p->∃ m,m<=10 * l/\(road mask m p).i=(aZl mask l (p.i,p.perturb)).1/\(road mask m p).perturb=(aZl mask l (p.i,p.perturb)).2/\(0 < l->(road mask m p).j=(road mask m p).i)
 | 0,p,_=>⟨0,Nat.le_refl _,rfl,rfl,λh=>absurd h (Nat.lt_irrefl _)⟩
 | l + 1,p,v=>by
  obtain⟨m,h1,h2,z,B⟩:=far mask l p v;have q:=PV.road m v;refine⟨m + ((road mask m p).more + 1),?_,?_⟩
  ·have:=q.more;lia
  ·rw[aQx,cXg,aZo,<- h2,<- z];exact⟨rfl,rfl,λ_=>rfl⟩
def f5 (N x:Nat):Nat:=(x * 5 + 1) % N
def f5s (N:Nat):Nat->Nat->Nat
 | 0,x=>x
 | a + 1,x=>f5s N a (f5 N x)
theorem bZ9 (N:Nat):∀ (a b x:Nat),f5s N (a + b) x=f5s N b (f5s N a x)
 | 0,b,x=>by rw[Nat.zero_add];rfl
 | a + 1,b,x=>by rw[Nat.add_right_comm];exact bZ9 N a b _
def dJq (N:Nat):Nat->Nat->List Nat->List Nat
 | 0,_,acc=>acc
 | a + 1,x,acc=>dJq N a (f5 N x) (x::acc)
theorem bX5 (N:Nat):∀ (a x:Nat) (acc:List Nat) (y:Nat),y∈dJq N a x acc->y∈acc\/∃ b,b < a/\f5s N b x=y
 | 0,_,_,_,h=>.inl h
 | a + 1,x,acc,y,h=>by
  rcases bX5 N a (f5 N x) (x::acc) y h with h | ⟨b,j,e⟩
  ·rcases aB.mp h with h | h
   ·exact .inr ⟨0,Nat.succ_pos _,h.symm⟩
   ·exact .inl h
  ·exact .inr ⟨b + 1,Nat.succ_lt_succ j,e⟩
def Full (N:Nat):Prop:=f5s N N 0=0/\∀ y,y < N->∃ b,b < N/\f5s N b 0=y
theorem bZa {N:Nat} (h:(f5s N N 0 == 0 && (aT N).all λy=>(dJq N N 0 []).contains y)=true):Full N:=by
 simp only[bm,beq_iff_eq,br,aP] at h;refine⟨h.1,λy j=>?_⟩;have q:=h.2 y j;rcases bX5 N N 0 [] y (by simpa using q) with z | z
 ·cases z
 ·exact z
theorem Full.from {N:Nat} (F:Full N) {x y:Nat} (hx:x < N) (hy:y < N):∃ a,a < N/\f5s N a x=y:=by
 obtain⟨b,B,q⟩:=F.2 x hx;obtain⟨c,z,j⟩:=F.2 y hy
 by_cases h:b<=c
 ·refine⟨c - b,by lia,?_⟩
  rw[<- q,<- bZ9,show b + (c - b)=c by lia,j]
 ·refine⟨N - b + c,by lia,?_⟩
  rw[<- q,<- bZ9,show b + (N - b + c)=N + c by lia,bZ9,F.1,j]
theorem fZy:Full 8:=bZa (by decide +kernel)
theorem eJ0:Full 32:=bZa (by decide +kernel)
theorem dJr:Full 128:=bZa (by decide +kernel)
theorem dJs:Full 512:=bZa (by decide +kernel)
def Mask (mask:Nat):Prop:=mask=7\/mask=31\/mask=127\/mask=511
theorem Mask.full {mask:Nat} (h:Mask mask):Full (mask + 1):=by
 rcases h with rfl | rfl | rfl | rfl
 ·exact fZy
 ·exact eJ0
 ·exact dJr
 ·exact dJs
theorem bZb {mask:Nat}:∀ (a:Nat) (s:Nat × Nat),s.2 < 32->(aZl mask a s).1=f5s (mask + 1) a s.1
 | 0,_,_=>rfl
 | a + 1,s,h=>by
  show(aZl mask a (leap mask s.1 s.2)).1=f5s (mask + 1) a (f5 (mask + 1) s.1);have e:s.2 / 32=0:=Nat.div_eq_of_lt h;have e1:(leap mask s.1 s.2).1=f5 (mask + 1) s.1:=by
   show(s.1 * 5 + 1 + s.2 / 32) % (mask + 1)=_;rw[e];rfl
  rw[bZb a _ (by show s.2 / 32 < 32;lia),e1]
theorem aJv (mask:Nat):∀ (a b:Nat) (s:Nat × Nat),aZl mask (a + b) s=aZl mask b (aZl mask a s)
 | 0,b,s=>by rw[Nat.zero_add];rfl
 | a + 1,b,s=>by rw[Nat.add_right_comm];exact aJv mask a b _
theorem eJ1 {mask:Nat} (hm:Mask mask) {p:Probe} (v:PV mask p) {y:Nat} (hy:y<=mask):∃ m,m < 10 * (mask + 15)/\(road mask m p).j=y:=by
 have q:(aZl mask 12 (p.i,p.perturb)).1 < mask + 1:=by
  rw[aZo mask 11];exact Nat.lt_succ_of_le (bJ7 _ _ _)
 have z:(aZl mask 12 (p.i,p.perturb)).2 < 32:=by
  rw[bZ8]
  have:=v.pt
  show p.perturb / 32 ^ 12 < 32;have e:(2:Nat) ^ 64=18446744073709551616:=by decide
  have e2:(32:Nat) ^ 12=1152921504606846976:=by decide
  rw[e2];lia
 obtain⟨a,G,D⟩:=hm.full.from q (Nat.lt_succ_of_le hy)
 obtain⟨m,h1,h2,_,B⟩:=far mask (12 + a) p v;refine⟨m,by lia,?_⟩
 rw[B (by lia),h2,aJv,bZb a _ z,D]
def Ris (xs:List Nat):Prop:=xs.Pairwise (· < ·)
theorem bZc (xs:Array Nat) (j:Nat) (hr:Ris xs.toList):∀ (fuel lo hi:Nat),hi - lo<=fuel->lo<=hi->hi<=xs.size->(∀ i,i < lo->xs.getD i j < j)->(∀ i,hi<=i->i < xs.size->j<=xs.getD i j) ->
  below.go xs j fuel lo hi<=xs.size/\(∀ i,i < below.go xs j fuel lo hi->xs.getD i j < j)/\∀ i,below.go xs j fuel lo hi<=i->i < xs.size->j<=xs.getD i j
 | 0,lo,hi,hf,hl,D,h1,h2=>by
  have e:lo=hi:=by lia
  subst e;exact⟨D,h1,h2⟩
 | fuel + 1,lo,hi,hf,hl,D,h1,h2=>by
  unfold below.go
  by_cases z:lo < hi
  ·rw[if_pos z];have mlt:(lo + hi) / 2 < xs.size:=by lia
   have mono:∀ a b,a<=b->b < xs.size->xs.getD a j<=xs.getD b j:=λa b N J=>by
    rcases Nat.lt_or_eq_of_le N with h | h
    ·have q:=(cr.mp hr) a b (by simpa using Nat.lt_trans h J) (by simpa using J) h
     simp only[gv,J,Nat.lt_trans h J,dif_pos];simpa using Nat.le_of_lt q
    ·subst h;exact Nat.le_refl _
   show(if xs.getD ((lo + hi) / 2) j < j then _ else _)<=_/\_
   by_cases G:xs.getD ((lo + hi) / 2) j < j
   ·simp only[G,if_true];exact bZc xs j hr fuel _ hi (by lia) (by lia) D (λi B=>Nat.lt_of_le_of_lt (mono i ((lo + hi) / 2) (by lia) mlt) G) h2
   ·simp only[G,if_false];exact bZc xs j hr fuel lo _ (by lia) (by lia) (by lia) h1 (λi B L=>Nat.le_trans (Nat.le_of_not_lt G) (mono _ i B L))
  ·rw[if_neg z];have e:lo=hi:=by lia
   subst e;exact⟨D,h1,h2⟩
theorem bQr {xs:Array Nat} (hr:Ris xs.toList) (j:Nat):below xs j<=xs.size/\(∀ i,i < below xs j->xs.getD i j < j)/\∀ i,below xs j<=i->i < xs.size->j<=xs.getD i j :=
 bZc xs j hr xs.size 0 xs.size (by lia) (by lia) (Nat.le_refl _) (λi h=>absurd h (Nat.not_lt_zero _)) (λi h h'=>absurd h' (Nat.not_lt.mpr h))
theorem dQx {xs:Array Nat} (hr:Ris xs.toList) {i j:Nat} (h:xs[i]?=some j):below xs j=i:=by
 obtain⟨hi,e⟩:=c8.mp h;obtain⟨b1,b2,G⟩:=bQr hr j;have O:∀ k,k < xs.size->xs.getD k j=xs.getD k 0:=λk D=>by simp[gv,D]
 have N:xs.getD i j=j:=by simp[gv,hi,e]
 have inc:∀ a b,a < b->b < xs.size->xs.getD a j < xs.getD b j:=λa b z B=>by
  have q:=(cr.mp hr) a b (by simpa using Nat.lt_trans z B) (by simpa using B) z
  simp only[gv,B,Nat.lt_trans z B,dif_pos];simpa using q
 rcases Nat.lt_trichotomy (below xs j) i with h | h | h
 ·have L:=inc _ _ h hi;have J:=G _ (Nat.le_refl _) (Nat.lt_trans h hi);lia
 ·exact h
 ·have q:=b2 i h;lia
structure Tab (t:aS):Prop where
 mask:Mask t.mask
 nodum:t.dummies=#[]
 ris:Ris t.place.toList
 top:∀ j∈t.place.toList,j<=t.mask
theorem bJ8 {t:aS} (T:Tab t) {j i:Nat} (h:t.place[i]?=some j):t.slot j=.live i:=by
 unfold aS.slot;dsimp only;rw[dQx T.ris h,h];simp
theorem cXh {t:aS} (T:Tab t) {j:Nat} (h:j∉t.place.toList):t.slot j=.empty:=by
 unfold aS.slot;dsimp only;have e:(t.place[below t.place j]? == some j)=false:=by
  cases q:t.place[below t.place j]? == some j with
  | false=>rfl
  | true =>
   have:=gu q
   obtain⟨hi,e⟩:=c8.mp this;exact absurd (by rw[<- e];simp) h
 rw[e];simp only[aL,if_false];have e2:has t.dummies j=false:=by rw[T.nodum];unfold has;simp
 rw[e2];simp
theorem cZf {t:aS} (T:Tab t) (j:Nat):(∃ i,t.slot j=.live i/\t.place[i]?=some j)\/(t.slot j=.empty/\j∉t.place.toList):=by
 by_cases h:j∈t.place.toList
 ·obtain⟨i,hi,e⟩:=bB h;have q:t.place[i]?=some j:=by
   rw[c8];exact⟨by simpa using hi,by simpa using e⟩
  exact .inl ⟨i,bJ8 T q,q⟩
 ·exact .inr ⟨cXh T h,h⟩
theorem cXi {t : aS} (T : Tab t) (hashAt : Nat -> Int) (h : Int) : ∀ (fuel : Nat) (p : Probe), p.dummy = none -> (∃ m, m < fuel /\ (road t.mask m p).j ∉ t.place.toList) ->
    ∃ m, m < fuel /\ (∀ m', m' < m -> ∃ i, t.place[i]? = some (road t.mask m' p).j /\ hashAt i ≠ h) /\
      (((road t.mask m p).j ∉ t.place.toList /\ probe.go t hashAt h fuel p = some (.empty (road t.mask m p).j none)) \/
       ∃ i, t.place[i]? = some (road t.mask m p).j /\ t.slot (road t.mask m p).j = .live i /\ hashAt i = h /\ probe.go t hashAt h fuel p = some (.candidate (road t.mask m p).j i (road t.mask (m + 1) p)))
  | 0, p, _, ⟨m, hm, _⟩ => absurd hm (Nat.not_lt_zero _)
  | fuel + 1, p, hd, ⟨m, hm, hf⟩ => by
    unfold probe.go;rcases cZf T p.j with⟨i, e, q⟩ | ⟨e, q⟩
    · rw [e]
      dsimp only
      by_cases z : hashAt i = h
      · refine⟨0, Nat.succ_pos _, λ_ h' => absurd h' (Nat.not_lt_zero _), .inr ⟨i, q, e, z, ?_⟩⟩
        rw [if_pos (by simpa using z), bQp]
        rfl
      · rw [if_neg (by simpa using z), bQp]
        cases m with
        | zero => exact absurd (dF.mpr (eW q)) hf
        | succ m =>
          obtain⟨B, h1, h2, G⟩ := cXi T hashAt h fuel (step t.mask p) (by rw [bQq]; exact hd) ⟨m, by lia, hf⟩
          refine⟨B + 1, by lia, λm' D => ?_, G⟩
          cases m' with
          | zero => exact⟨i, q, z⟩
          | succ m' => exact h2 m' (by lia)
    · rw [e]
      exact⟨0, Nat.succ_pos _, λ_ h' => absurd h' (Nat.not_lt_zero _), .inl ⟨q, by rw [hd]; rfl⟩⟩
theorem bQs {t:aS} (T:Tab t) (hn:t.place.size<=t.mask):∃ y,y<=t.mask/\y∉t.place.toList:=by
 apply aJ;intro q;have all:∀ y,y < t.mask + 1->y∈t.place.toList:=λy j=>aJ λh=>q ⟨y,Nat.le_of_lt_succ j,h⟩;have hl:(aT (t.mask + 1)).length<=t.place.toList.length:=by
  apply g8.length_le_of_subset iL;intro y j;exact all y (aP.mp j)
 rw[cR] at hl
 have:t.place.toList.length=t.place.size:=by simp
 lia
theorem cZg {t : aS} (T : Tab t) (hn : t.place.size <= t.mask) (hashAt : Nat -> Int) (h : Int) {p : Probe} (v : PV t.mask p) (hd : p.dummy = none) :
    ∃ m, (∀ m', m' < m -> ∃ i, t.place[i]? = some (road t.mask m' p).j /\ hashAt i ≠ h) /\
      (((road t.mask m p).j ∉ t.place.toList /\ t.probe hashAt h p = some (.empty (road t.mask m p).j none)) \/
       ∃ i, t.place[i]? = some (road t.mask m p).j /\ t.slot (road t.mask m p).j = .live i /\ hashAt i = h /\ t.probe hashAt h p = some (.candidate (road t.mask m p).j i (road t.mask (m + 1) p))) := by
  obtain⟨y, z, hf⟩ := bQs T hn;obtain⟨m, hm, e⟩ := eJ1 T.mask v z;obtain⟨q, _, h2, B⟩ := cXi T hashAt h (10 * turns t.mask) p hd ⟨m, hm, by rw [e]; exact hf⟩
  exact⟨q, h2, B⟩
end ST
set_option autoImplicit false
namespace ST
open PySem PySem.SetTable
theorem aXi {α:Type} (xs:Array α) (p:Nat) (x:α) (h:p<=xs.size):(insertAt xs p x).toList=xs.toList.take p++x::xs.toList.drop p:=by
 unfold insertAt;simp only[bL,b4,Array.toList_extract,aZ,List.singleton_append];simp only[List.extract,fZ,Nat.sub_zero];rw[bE (l:=List.drop p xs.toList) (by simp)]
theorem aX6 {α:Type} {l:List α} {p i:Nat} {x y:α} (hp:p<=l.length) (h:(l.take p++x::l.drop p)[i]?=some y):(i < p/\l[i]?=some y)\/(i=p/\y=x)\/(p < i/\l[i - 1]?=some y):=by
 have hl:(l.take p).length=p:=by rw[aQ];lia
 rcases Nat.lt_trichotomy i p with c | c | c
 ·left
  rw[du (by lia),fB c] at h
  exact⟨c,h⟩
 ·right;left
  subst c;rw[bU (by lia),hl,Nat.sub_self] at h
  simp at h;exact⟨rfl,h.symm⟩
 ·right;right
  rw[bU (by lia),hl] at h
  rw[show i - p=(i - 1 - p) + 1 by lia,iM,g9] at h
  rw[show p + (i - 1 - p)=i - 1 by lia] at h
  exact⟨c,h⟩
structure SetI (es:Array (Int × ad)) (t:aS):Prop where
 tab:Tab t
 size:t.place.size=es.size
 room:es.size * 5 < t.mask * 3
 reach:∀ (i j:Nat) (e:Int × ad),t.place[i]?=some j->es[i]?=some e->∃ r,(road t.mask r (start t.mask e.1)).j=j/\∀ r',r' < r->(road t.mask r' (start t.mask e.1)).j∈t.place.toList
theorem SetI.le {es:Array (Int × ad)} {t:aS} (I:SetI es t):t.place.size<=t.mask:=by have:=I.size;have:=I.room;lia
theorem SetI.fits {es:Array (Int × ad)} {t:aS} (I:SetI es t):t.fits es.size=true:=by
 unfold jw jx;rw[I.tab.nodum,I.size]
 have:=I.room
 simp only[bm,beq_iff_eq,decide_eq_true_eq];refine⟨trivial,?_⟩;simp;lia
theorem SetI.way {es:Array (Int × ad)} {t:aS} (I:SetI es t):t.gaveWay=false:=by
 unfold aS.gaveWay;rcases I.tab.mask with e | e | e | e <;> rw[e] <;> rfl
theorem dQy (f m:Nat) (led:Bool):SetI #[] (jp f m led) where
 tab:=⟨.inl rfl,rfl,.nil,λj h=>by simp[jp] at h⟩
 size:=rfl
 room:=by show 0 * 5 < 7 * 3;decide
 reach:=λi j e h=>by simp[jp] at h
structure Put (t t':aS) (j p:Nat):Prop where
 tab:Tab t'
 mask:t'.mask=t.mask
 le:p<=t.place.size
 place:t'.place.toList=t.place.toList.take p++j::t.place.toList.drop p
theorem eJ2 {t:aS} (T:Tab t) {j:Nat} (hj:j<=t.mask) (hf:j∉t.place.toList):Put t (t.put j).1 j (t.put j).2:=by
 obtain⟨b1,b2,R⟩:=bQr T.ris j;have e:(t.put j).1.place.toList=t.place.toList.take (below t.place j)++j::t.place.toList.drop (below t.place j):=aXi _ _ _ b1;have e2:(t.put j).1.dummies=#[]:=by
  show(if has t.dummies j=true then _ else t.dummies)=#[]
  have q:has t.dummies j=false:=by rw[T.nodum];unfold has;simp
  rw[q];simp[T.nodum]
 refine⟨⟨T.mask,e2,?_,?_⟩,rfl,b1,e⟩
 ·unfold Ris;rw[e,bf,aW];have N:=T.ris;unfold Ris at N;have G:∀ a∈t.place.toList.take (below t.place j),a < j:=λa B=>by
   obtain⟨i,hi,L⟩:=bB B;rw[aQ] at hi;have D:i < t.place.size:=by (have:t.place.toList.length=t.place.size:=by simp);lia
   have q:=b2 i (by lia)
   simp only[gv,D,dif_pos] at q;rw[f6] at L;rw[<- L];simpa using q
  have J:∀ a∈t.place.toList.drop (below t.place j),j < a:=λa B=>by
   obtain⟨i,hi,L⟩:=bB B;rw[bq] at hi;have hl:t.place.toList.length=t.place.size:=by simp
   have D:below t.place j + i < t.place.size:=by lia
   have q:=R (below t.place j + i) (by lia) D
   simp only[gv,D,dif_pos] at q;rw[f7] at L;have ne:a≠j:=λz=>hf (by rw[<- z];exact cF B)
   have U:j<=a:=by rw[<- L];simpa using q
   lia
  refine⟨N.sublist (fU _ _),⟨J,N.sublist (List.drop_sublist _ _)⟩,λa B b O=>?_⟩;rcases aB.mp O with rfl | O
  ·exact G a B
  ·exact Nat.lt_trans (G a B) (J b O)
 ·intro a B;rw[e] at B;rcases ar.mp B with B | B
  ·exact T.top a (b5 B)
  ·rcases aB.mp B with rfl | B
   ·exact hj
   ·exact T.top a (cF B)
theorem put_set {es:Array (Int × ad)} {t:aS} (I:SetI es t) {j r:Nat} {h:Int} {x:ad} (hj:j<=t.mask) (hf:j∉t.place.toList) (e:(road t.mask r (start t.mask h)).j=j) (hr:∀ r',r' < r->(road t.mask r' (start t.mask h)).j∈t.place.toList) :
  ∀ b,(insertAt es (t.put j).2 (h,x)).toList=es.toList.take (t.put j).2++(h,x)::es.toList.drop (t.put j).2/\(insertAt es (t.put j).2 (h,x)).size=es.size + 1 /\
   Tab { (t.put j).1 with plain:=b }/\(t.put j).1.place.size=es.size + 1/\(t.put j).1.mask=t.mask /\
   ∀ (i j':Nat) (e':Int × ad),(t.put j).1.place[i]?=some j'->(insertAt es (t.put j).2 (h,x))[i]?=some e'->∃ r,(road t.mask r (start t.mask e'.1)).j=j'/\∀ r',r' < r->(road t.mask r' (start t.mask e'.1)).j∈(t.put j).1.place.toList:=by
 intro b;have P:=eJ2 I.tab hj hf;have hle:(t.put j).2<=es.size:=by rw[<- I.size];exact P.le
 have el:=aXi es (t.put j).2 (h,x) hle;have sz:(insertAt es (t.put j).2 (h,x)).size=es.size + 1:=by
  have q:=congrArg e8 el;rw[av,aV,aQ,bq] at q
  have:es.toList.length=es.size:=by simp
  rw[show(insertAt es (t.put j).2 (h,x)).toList.length=(insertAt es (t.put j).2 (h,x)).size by simp] at q
  lia
 have O:(t.put j).1.place.size=es.size + 1:=by
  have q:=congrArg e8 P.place;rw[av,aV,aQ,bq] at q
  have:t.place.toList.length=t.place.size:=by simp
  have:=I.size
  have:=P.le
  rw[show(t.put j).1.place.toList.length=(t.put j).1.place.size by simp] at q
  lia
 refine⟨el,sz,⟨P.tab.mask,P.tab.nodum,P.tab.ris,P.tab.top⟩,O,P.mask,λi j' e' h1 h2=>?_⟩;have sub:∀ a∈t.place.toList,a∈(t.put j).1.place.toList:=λa L=>by
  rw[P.place];rw[<- bj (t.put j).2 t.place.toList] at L;rcases ar.mp L with L | L
  ·exact bZ _ L
  ·exact aU _ (aq _ L)
 have old:∀ N,t.place.toList[N]?=some j'->es.toList[N]?=some e'->∃ r,(road t.mask r (start t.mask e'.1)).j=j'/\∀ r',r' < r->(road t.mask r' (start t.mask e'.1)).j∈(t.put j).1.place.toList:=λN a b=>by
  obtain⟨r,D,z⟩:=I.reach N j' e' (by rw[<- aM];exact a) (by rw[<- aM];exact b)
  exact⟨r,D,λr' G=>sub _ (z r' G)⟩
 have R:(t.place.toList.take (t.put j).2++j::t.place.toList.drop (t.put j).2)[i]?=some j':=by rw[<- P.place];simpa using h1
 have J:(es.toList.take (t.put j).2++(h,x)::es.toList.drop (t.put j).2)[i]?=some e':=by rw[<- el];simpa using h2
 rcases aX6 (by simpa using P.le) R with⟨U,D⟩ | ⟨U,D⟩ | ⟨U,D⟩
 ·rcases aX6 (by simpa using hle) J with⟨B,z⟩ | ⟨B,z⟩ | ⟨B,z⟩
  ·exact old i D z
  ·lia
  ·lia
 ·rcases aX6 (by simpa using hle) J with⟨B,z⟩ | ⟨B,z⟩ | ⟨B,z⟩
  ·lia
  ·subst D z;exact⟨r,e,λr' G=>sub _ (hr r' G)⟩
  ·lia
 ·rcases aX6 (by simpa using hle) J with⟨B,z⟩ | ⟨B,z⟩ | ⟨B,z⟩
  ·lia
  ·lia
  ·exact old (i - 1) D z
abbrev Own:=Array (Option Nat)
def liveOf (mask:Nat) (owner:Own):List (Nat × Nat):=(aT (mask + 1)).filterMap λj=>(owner.getD j none).map (j,·)
theorem aZ9 {α β:Type} {f g:α->Option β}:∀ {l:List α},(∀ a∈l,f a=g a)->l.filterMap f=l.filterMap g
 | [],_=>rfl
 | a::l,h=>by
  rw[cb,cb,h a ao,aZ9 λb j=>h b (aq _ j)]
theorem dQz {mask:Nat} {owner:Own} {j k:Nat} (hs:owner.size=mask + 1) (hj:j<=mask) (hn:owner.getD j none=none):(liveOf mask (owner.setIfInBounds j (some k))).Perm ((j,k)::liveOf mask owner):=by
 unfold liveOf;obtain⟨s,u,e⟩:=List.append_of_mem (aP.mpr (Nat.lt_succ_of_le hj));have nd:(aT (mask + 1)).Nodup:=iL;rw[e] at nd ⊢;have h1:j∉s:=λh=>by
  have:=cz.mp nd
  exact absurd rfl (this.2.2 j h j ao)
 have h2:j∉u:=λh=>by
  have:=cz.mp nd
  exact(bt.mp this.2.1).1 h
 have g:∀ a,a≠j->(owner.setIfInBounds j (some k)).getD a none=owner.getD a none:=λa q=>by
  rw[bN,bN,gg (cf q)]
 have B:(owner.setIfInBounds j (some k)).getD j none=some k:=by
  rw[bN,eZ (by lia)];rfl
 rw[gi,gi,cb,cb,B,hn];simp only[Option.map_some,Option.map_none];rw[aZ9 (l:=s) (g:=λj=>(owner.getD j none).map (j,·)) λa q=>by rw[g a λz=>h1 (z ▸ q)],aZ9 (l:=u) (g:=λj=>(owner.getD j none).map (j,·)) λa q=>by rw[g a λz=>h2 (z ▸ q)]]
 exact fm
theorem cQ8 {owner:Own} {j:Nat} (h:j < owner.size) (d:Option Nat):owner.getD j d=owner[j]:=by simp[gv,h]
theorem bX6 {mask:Nat} {owner:Own} (hs:owner.size=mask + 1):∀ (fuel:Nat) (p:Probe),PV mask p->p.j=p.i->p.more=runEnd mask p.i - p.i->(∃ l,l < fuel/\owner.getD (aZl mask l (p.i,p.perturb)).1 none=none) ->
  ∃ r j,layClean.free mask owner fuel p.i p.perturb=some j/\(road mask r p).j=j/\j<=mask/\owner.getD j none=none/\∀ r',r' < r->(owner.getD (road mask r' p).j none).isSome=true
 | 0,p,_,_,_,⟨l,h,_⟩=>absurd h (Nat.not_lt_zero _)
 | fuel + 1,p,v,N,hm,⟨l,hl,hf⟩=>by
  have re:=aJu mask p.i v.i;have Y:=v.j;have D:∀ k,k<=p.more->p.i + k<=mask:=λk B=>by lia
  have gd:∀ k,k<=p.more->owner.getD (p.i + k) (some 0)=owner.getD (p.i + k) none:=λk B=>by
   have:p.i + k < owner.size:=by have:=D k B;lia
   rw[cQ8 this,cQ8 this]
  have rd:∀ k,k<=p.more->(road mask k p).j=p.i + k:=λk B=>by rw[cXf mask k p B,<- N]
  unfold layClean.free;have U:runEnd mask p.i + 1 - p.i=p.more + 1:=by lia
  rw[U];cases hq:(aT (p.more + 1)).find? λk=>(owner.getD (p.i + k) (some 0)).isNone with
  | some k =>
   rw[List.find?_range_eq_some] at hq;obtain⟨h1,h2,O⟩:=hq;have B:k<=p.more:=Nat.le_of_lt_succ (aP.mp h2);refine⟨k,p.i + k,rfl,rd k B,D k B,?_,λr' G=>?_⟩
   ·rw[gd k B] at h1;exact Option.isNone_iff_eq_none.mp h1
   ·have q:=O r' G;rw[gd r' (by lia)] at q
    rw[rd r' (by lia)]
    cases e:owner.getD (p.i + r') none with
    | none=>rw[e] at q;cases q
    | some z=>rfl
  | none =>
   rw[List.find?_eq_none] at hq;have taken:∀ k,k<=p.more->(owner.getD (p.i + k) none).isSome=true:=λk B=>by
    have q:=hq k (aP.mpr (Nat.lt_succ_of_le B));rw[gd k B] at q;cases e:owner.getD (p.i + k) none with
    | none=>rw[e] at q;exact absurd rfl q
    | some z=>rfl
   cases l with
   | zero =>
    have q:=taken 0 (Nat.zero_le _);have J:owner.getD p.i none=none:=hf;rw[Nat.add_zero,J] at q;cases q
   | succ l =>
    have e:=cXg mask p;have L:PV mask (road mask (p.more + 1) p):=PV.road _ v;obtain⟨r,j,f1,f2,R,f4,f5⟩:=bX6 hs fuel (road mask (p.more + 1) p) L (by rw[e]) (by rw[e]) ⟨l,by lia,by rw[e];exact hf⟩
    refine⟨p.more + 1 + r,j,?_,by rw[aQx];exact f2,R,f4,λr' G=>?_⟩
    ·rw[e] at f1;exact f1
    ·by_cases c:r'<=p.more
     ·rw[rd r' c];exact taken r' c
     ·have q:=f5 (r' - (p.more + 1)) (by lia)
      rw[<- aQx,show p.more + 1 + (r' - (p.more + 1))=r' by lia] at q
      exact q
structure OwnI (mask:Nat) (owner:Own) (hs:List Int):Prop where
 size:owner.size=mask + 1
 perm:((liveOf mask owner).map (·.2)).Perm (aT hs.length)
 reach:∀ (j k:Nat),owner.getD j none=some k->∃ h,hs[k]?=some h/\∃ r,(road mask r (start mask h)).j=j/\∀ r',r' < r->(owner.getD (road mask r' (start mask h)).j none).isSome=true
theorem OwnI.free {mask:Nat} (hm:Mask mask) {owner:Own} {hs:List Int} (I:OwnI mask owner hs) (hl:hs.length<=mask):∃ y,y<=mask/\owner.getD y none=none:=by
 apply aJ;intro D;have all:∀ y,y < mask + 1->(owner.getD y none).isSome=true:=λy B=>by
  cases e:owner.getD y none with
  | none=>exact absurd ⟨y,Nat.le_of_lt_succ B,e⟩ D
  | some z=>rfl
 have len:((aT (mask + 1)).filterMap λj=>(owner.getD j none).map (j,·)).length=mask + 1:=by
  have gen:∀ l:List Nat,(∀ y∈l,(owner.getD y none).isSome=true)->(l.filterMap λj=>(owner.getD j none).map (j,·)).length=l.length:=by
   intro l
   induction l with
   | nil=>intro _;rfl
   | cons a l G =>
    intro h;obtain⟨z,e⟩:=cy.mp (h a ao);rw[cb,e];simp only[Option.map_some,aV];rw[G λy B=>h y (aq _ B)]
  rw[gen _ λy B=>all y (aP.mp B),cR]
 have q:=I.perm.length_eq;rw[aj,cR] at q;unfold liveOf at q;lia
theorem cXj {mask:Nat} (hm:Mask mask) {owner:Own} {y:Nat} (hy:y<=mask) (hf:owner.getD y none=none) (p:Probe) (v:PV mask p):∃ l,l < turns mask/\owner.getD (aZl mask l (p.i,p.perturb)).1 none=none:=by
 have j:(aZl mask 12 (p.i,p.perturb)).1 < mask + 1:=by rw[aZo mask 11];exact Nat.lt_succ_of_le (bJ7 _ _ _)
 have q:(aZl mask 12 (p.i,p.perturb)).2 < 32:=by
  rw[bZ8]
  have:=v.pt
  show p.perturb / 32 ^ 12 < 32;have e:(2:Nat) ^ 64=18446744073709551616:=by decide
  have e2:(32:Nat) ^ 12=1152921504606846976:=by decide
  rw[e2];lia
 obtain⟨a,B,z⟩:=hm.full.from j (Nat.lt_succ_of_le hy)
 refine⟨12 + a,by unfold turns;lia,?_⟩
 rw[aJv,bZb a _ q,z];exact hf
def cXk (mask:Nat) (acc:Option (Own × Nat)) (h:Int):Option (Own × Nat):=do
 let (owner,k) <- acc
 let j <- layClean.free mask owner (turns mask) (bits h % (mask + 1)) (bits h)
 pure (owner.setIfInBounds j (some k),k + 1)
theorem cQ9 {mask:Nat} (hm:Mask mask):∀ (hs done:List Int) (owner:Own),OwnI mask owner done->done.length + hs.length<=mask ->
  ∃ owner',hs.foldl (cXk mask) (some (owner,done.length))=some (owner',(done++hs).length)/\OwnI mask owner' (done++hs)
 | [],done,owner,I,_=>⟨owner,by rw[ci];rfl,by rw[ci];exact I⟩
 | h::hs,done,owner,I,hl=>by
  rw[aV] at hl;obtain⟨y,O,hf⟩:=I.free hm (by lia)
  have v:=aXh mask h;obtain⟨r,j,f1,f2,U,f4,f5⟩:=bX6 I.size (turns mask) (start mask h) v rfl rfl (cXj hm O hf _ v);have G:j < owner.size:=by have:=I.size;lia
  have z:∀ a,a≠j->(owner.setIfInBounds j (some done.length)).getD a none=owner.getD a none:=λa J=>by
   rw[bN,bN,gg (cf J)]
  have N:(owner.setIfInBounds j (some done.length)).getD j none=some done.length:=by
   rw[bN,eZ G];rfl
  have more:∀ a,(owner.getD a none).isSome=true->((owner.setIfInBounds j (some done.length)).getD a none).isSome=true:=λa J=>by
   by_cases c:a=j
   ·rw[c,N];rfl
   ·rw[z a c];exact J
  have Z:OwnI mask (owner.setIfInBounds j (some done.length)) (done++[h]):=by
   refine⟨by rw[Array.size_setIfInBounds];exact I.size,?_,λa k e=>?_⟩
   ·have q:=(dQz (k:=done.length) I.size U f4).map (·.2);rw[bi] at q;refine q.trans ?_;rw[av,dZ,fJ];exact(I.perm.cons _).trans (hJ _ _).symm
   ·by_cases c:a=j
    ·subst c;rw[N] at e;cases e;refine⟨h,by simp,r,f2,λB D=>more _ (f5 B D)⟩
    ·rw[z a c] at e;obtain⟨h',e1,B,e2,Y⟩:=I.reach a k e;exact⟨h',by rw[du (aG.mp e1).1];exact e1,B,e2,λx R=>more _ (Y x R)⟩
  obtain⟨owner',e1,e2⟩:=cQ9 hm hs (done++[h]) _ Z (by rw[av,dZ];lia)
  refine⟨owner',?_,by rw[aZ] at e2;exact e2⟩
  rw[List.foldl_cons];have es:cXk mask (some (owner,done.length)) h=some (owner.setIfInBounds j (some done.length),done.length + 1):=by
   show(do let j <- layClean.free mask owner (turns mask) (bits h % (mask + 1)) (bits h);pure (owner.setIfInBounds j (some done.length),done.length + 1))=_
   have L:layClean.free mask owner (turns mask) (bits h % (mask + 1)) (bits h)=some j:=f1;rw[L]
   rfl
  rw[es];rw[av,dZ,aZ] at e1;exact e1
theorem cXl (mask:Nat):OwnI mask (fK (mask + 1) none) [] where
 size:=by simp
 perm:=by
  have e:liveOf mask (fK (mask + 1) none)=[]:=by
   unfold liveOf;rw[List.filterMap_eq_nil_iff];intro a q
   have:(fK (mask + 1) (none:Option Nat)).getD a none=none:=by
    rw[bN,ix];split <;> rfl
   rw[this];rfl
  rw[e];exact c9 _
 reach:=λj k e=>by
  have:(fK (mask + 1) (none:Option Nat)).getD j none=none:=by
   rw[bN,ix];split <;> rfl
  rw[this] at e;cases e
theorem bJ9 {mask:Nat} (hm:Mask mask) (hs:Array Int) (hl:hs.size<=mask):∃ owner,layClean mask hs=some owner/\OwnI mask owner hs.toList:=by
 obtain⟨owner,e1,e2⟩:=cQ9 hm hs.toList [] _ (cXl mask) (by simpa using hl)
 refine⟨owner,?_,by simpa using e2⟩
 unfold layClean
 have:hs.foldl (init:=some (fK (mask + 1) (none:Option Nat),0)) (λacc h=>do
  let (owner,k) <- acc
  let j <- layClean.free mask owner (turns mask) (bits h % (mask + 1)) (bits h)
  pure (owner.setIfInBounds j (some k),k + 1))=some (owner,hs.size):=by
  rw[<- Array.foldl_toList];have q:=e1;simp only[bD,dN] at q;rw[show hs.toList.length=hs.size by simp] at q
  exact q
 rw[this]
 rfl
theorem cQa {α β:Type} {f:α->Option β}:∀ {l:List α},(∀ a∈l,(f a).isSome=true)->(l.filterMap f).length=l.length/\∀ i:Nat,(l.filterMap f)[i]?=(l[i]?).bind f
 | [],_=>⟨rfl,λi=>by simp⟩
 | a::l,h=>by
  obtain⟨z,e⟩:=cy.mp (h a ao);obtain⟨h1,h2⟩:=cQa (l:=l) (f:=f) λb j=>h b (aq _ j);rw[cb,e];refine⟨by simp[h1],λi=>?_⟩
  cases i with
  | zero=>simp[e]
  | succ i=>simpa using h2 i
theorem cQb {mask:Nat} {owner:Own} {j k:Nat} (h:(j,k)∈liveOf mask owner):j<=mask/\owner.getD j none=some k:=by
 unfold liveOf at h;obtain⟨a,B,e⟩:=eP.mp h;cases q:owner.getD a none with
 | none=>rw[q] at e;cases e
 | some z=>rw[q] at e;cases e;exact⟨Nat.le_of_lt_succ (aP.mp B),q⟩
theorem dZ0 {mask:Nat} {owner:Own} {j k:Nat} (h1:j<=mask) (h2:owner.getD j none=some k):(j,k)∈liveOf mask owner :=
 eP.mpr ⟨j,aP.mpr (Nat.lt_succ_of_le h1),by rw[h2];rfl⟩
theorem dZ1 (mask:Nat) (owner:Own):Ris ((liveOf mask owner).map (·.1)):=by
 unfold Ris liveOf;rw[bH];refine List.Pairwise.filterMap _ ?_ (f8 (n:=mask + 1));intro a B j b hb G hb';cases q:owner.getD a none with
 | none=>rw[q] at hb;cases hb
 | some z =>
  rw[q] at hb;cases hb;cases q':owner.getD B none with
  | none=>rw[q'] at hb';cases hb'
  | some D=>rw[q'] at hb';cases hb';exact j
theorem cQc {α:Type} (es:Array α):((aT es.size).filterMap λk=>es[k]?)=es.toList:=by
 apply d8;intro i;have h:=cQa (l:=aT es.size) (f:=λk=>es[k]?) (λa j=>by
  have:=aP.mp j
  simp[this])
 rw[h.2 i]
 by_cases c:i < es.size
 ·rw[gM c];simp
 ·rw[bu (by simpa using c)];simp[c]
theorem cXm {es:Array (Int × ad)} {mask' wanted:Nat} (t:aS) (hm:Mask mask') (hw:sizeAbove wanted - 1=mask') (hsz:es.size * 5 < mask' * 3) :
  ∃ t' order,t.relaid (es.map (·.1)) wanted=some (t',order)/\(order.filterMap (es[·]?)).size=es.size/\SetI (order.filterMap (es[·]?)) t'/\(order.filterMap (es[·]?)).toList.Perm es.toList:=by
 obtain⟨owner,e1,I⟩:=bJ9 hm (es.map (·.1)) (by rw[jq];lia)
 have el:(es.map (·.1)).toList.length=es.size:=by simp
 have G:=I.perm;rw[el] at G;have ks:∀ k∈(liveOf mask' owner).map (·.2),(es[k]?).isSome=true:=λk hk=>by
  have:=aP.mp (G.mem_iff.mp hk)
  simp[this]
 obtain⟨f1,f2⟩:=cQa (f:=λk=>es[k]?) ks;have D:(jf (es[·]?) ((liveOf mask' owner).map (·.2)).toArray).toList=((liveOf mask' owner).map (·.2)).filterMap (λk=>es[k]?):=by simp
 have perm:(jf (es[·]?) ((liveOf mask' owner).map (·.2)).toArray).toList.Perm es.toList:=by
  rw[D,<- cQc es];exact G.filterMap _
 have size:(jf (es[·]?) ((liveOf mask' owner).map (·.2)).toArray).size=es.size:=by
  have:=perm.length_eq
  simpa using this
 refine⟨{ mask:=mask',place:=((liveOf mask' owner).map (·.1)).toArray,dummies:=#[],finger:=t.finger,led:=t.led,moves:=t.movedTo mask',plain:=t.plain },((liveOf mask' owner).map (·.2)).toArray,?_,size,?_,perm⟩
 ·unfold relaid laid;rw[hw,e1]
  rfl
 ·refine⟨⟨hm,rfl,?_,λj hj=>?_⟩,?_,?_,λi j e h1 h2=>?_⟩
  ·show Ris ((liveOf mask' owner).map (·.1)).toArray.toList;exact dZ1 _ _
  ·have L:j∈(liveOf mask' owner).map (·.1):=hj;obtain⟨⟨a,k⟩,h,rfl⟩:=aH.mp L;exact(cQb h).1
  ·rw[size];show((liveOf mask' owner).map (·.1)).toArray.size=es.size
   have:=G.length_eq
   simpa using this
  ·rw[size];exact hsz
  ·have h1':((liveOf mask' owner).map (·.1))[i]?=some j:=by simpa using h1
   have B:(((liveOf mask' owner).map (·.2)).filterMap (λk=>es[k]?))[i]?=some e:=by
    rw[<- D,aM];exact h2
   rw[f2 i] at B;rw[ba] at h1' B;cases q:(liveOf mask' owner)[i]? with
   | none=>rw[q] at h1';cases h1'
   | some jk =>
    obtain⟨a,k⟩:=jk;rw[q] at h1' B;have ea:a=j:=aR h1';subst ea;have ek:es[k]?=some e:=B;obtain⟨_,Z⟩:=cQb (ak q);obtain⟨h,R,r,Y,U⟩:=I.reach a k Z;have N:e.1=h:=by
     have:(es.map (·.1)).toList[k]?=some e.1:=by
      rw[aM,Array.getElem?_map,ek];rfl
     rw[this] at R;exact aR R
    rw[N];refine⟨r,Y,λO J=>?_⟩;obtain⟨z,ez⟩:=cy.mp (U O J);have pv:=PV.road O (aXh mask' h)
    have:=pv.j
    show _∈((liveOf mask' owner).map (·.1)).toArray.toList;exact aH.mpr ⟨_,dZ0 (by lia) ez,rfl⟩
theorem grow {mask n:Nat} (hm:Mask mask) (h1:n * 5 < mask * 3) (h2:(n + 1) * 5 >= mask * 3) (hn:n + 1<=300):∃ mask',Mask mask'/\sizeAbove (grown (n + 1)) - 1=mask'/\(n + 1) * 5 < mask' * 3/\¬ sizeAbove (grown (n + 1)) > sizeLine:=by
 rcases hm with rfl | rfl | rfl | rfl
 ·have e:n=4:=by lia
  subst e;exact⟨31,.inr (.inl rfl),by decide +kernel,by decide,by decide +kernel⟩
 ·have e:n=18:=by lia
  subst e;exact⟨127,.inr (.inr (.inl rfl)),by decide +kernel,by decide,by decide +kernel⟩
 ·have e:n=76:=by lia
  subst e;exact⟨511,.inr (.inr (.inr rfl)),by decide +kernel,by decide,by decide +kernel⟩
 ·lia
open PySem.Spec PyProof.Rows
section
variable {prog:aC} {w:aO} {A:aY} {E:ad->ai->Prop} {s:ai}
def TK (prog:aC) (w:aO) (h:a9) (k:List Str) (v:ad):Prop:=∃ b,v=.ref b/\IsTupleKey (strKind prog w) h k b
theorem TK.inj {h:a9} {k k':List Str} {v:ad} (a:TK prog w h k v) (b:TK prog w h k' v):k=k':=by
 obtain⟨b1,rfl,h1⟩:=a;obtain⟨b2,e,h2⟩:=b;cases e;exact h1.inj h2
abbrev aZ5 (prog:aC) (w:aO) (k:List Str):Int:=tupleKeyHash (strKind prog w) k
theorem bZd {k:List Str} {vs:List ad} (h:ItemsAre (strKind prog w) k vs):∀ v∈vs,∃ x t,v=iF x t:=by
 induction h with
 | nil=>intro v hv;cases hv
 | cons h1 _ j =>
  intro v hv;rcases aB.mp hv with rfl | hv
  ·obtain⟨t,e⟩:=fv h1;exact⟨_,t,e⟩
  ·exact j v hv
theorem cQd {k:List Str} {v:ad} {Q:Bool->ai->Prop} (hk:TK prog w s.heap k v) (h:Q false s):aD (aF prog w) A (eY 8 v) Q E s:=by
 obtain⟨b,rfl,hk⟩:=hk;have D:=hk.typeIs;obtain⟨o,items,n,B,_,hd,hi⟩:=hk;unfold eY;refine aa (eQ D ?_);dsimp only;simp only[beq_self_eq_true,if_true];refine aa (ae ?_);simp only[fF,aL,if_false];refine aa (eH B hd ?_);dsimp only;refine aa ?_;show aD _ _ (forIn items _ _) _ _ s;rw[<- Array.forIn_toList];refine iN _ (λrest r s'=>r.1=none/\s'=s/\∀ v∈rest,∃ x t,v=iF x t) _ ?_ ?_ _ _ ⟨rfl,rfl,bZd hi⟩
 ·rintro x rest r s' ⟨q,rfl,j⟩;obtain⟨y,t,rfl⟩:=j x ao;unfold eY;refine aa (ae ?_);simp only[aL,if_false];exact ae ⟨rfl,rfl,λu z=>j u (aq _ z)⟩
 ·rintro⟨J,G⟩ s' ⟨q,rfl,_⟩;simp only at q;subst q;exact ae h
theorem dXf {k:List Str} {v:ad} {Q:Bool->ai->Prop} (hk:TK prog w s.heap k v) (h:Q true s):aD (aF prog w) A (eqIsQuiet 8 v) Q E s:=by
 obtain⟨b,rfl,hk⟩:=hk;exact wpAny_eqIsQuiet_tuple hk h
theorem dJt {k:List Str} {x:ad} {stored:List ad} {Q:Bool->ai->Prop} (hx:TK prog w s.heap k x) (hs:∀ y∈stored,∃ k',TK prog w s.heap k' y) (h:Q false s) :
  aD (aF prog w) A (searchCouldBeSeen x stored) Q E s:=by
 unfold searchCouldBeSeen;refine aa (iN _ (λrest r s'=>r.1=none/\s'=s/\∀ y∈rest,∃ k',TK prog w s.heap k' y) _ ?_ ?_ _ _ ⟨rfl,rfl,hs⟩)
 ·rintro y rest r s' ⟨J,rfl,j⟩;obtain⟨k',G⟩:=j y ao;have fin:∀ y∈rest,∃ k',TK prog w s'.heap k' y:=λz N=>j z (aq _ N);obtain⟨L,ex,_⟩:=id hx;obtain⟨B,O,_⟩:=id G
  have main:∀ c:Bool,aD (aF prog w) A (if c=true then pure (bn ((none,()):Option Bool × Unit)) else do
    if !(<- eqIsQuiet 8 x) then pure (bg (some true,())) else
    if !(<- eqIsQuiet 8 y) then pure (bg (some true,())) else
    if <- eY 8 x then pure (bg (some true,())) else
    if <- eY 8 y then pure (bg (some true,())) else pure (bn (none,())))
    (λr q=>match r with
     | bn D=>D.fst=none/\q=s'/\∀ (y:ad),y∈rest->∃ k',TK prog w s'.heap k' y
     | bg D=>False) E s':=by
   intro c;cases c with
   | true=>exact ae ⟨rfl,rfl,fin⟩
   | false =>
    simp only[aL,if_false];refine aa (dXf hx ?_);simp only[fF,aL,if_false];refine aa (dXf G ?_);simp only[fF,aL,if_false];refine aa (cQd hx ?_);simp only[aL,if_false];refine aa (cQd G ?_);simp only[aL,if_false];exact ae ⟨rfl,rfl,fin⟩
  rw[ex,O] at main ⊢;dsimp only;refine c6 (main ((L == B) || (carriedByValue (.ref L) && carriedByValue (.ref B)))) (λr s1 h=>?_) (λ_ _ e=>e)
  cases r with
  | yield D=>exact h
  | done D=>exact h.elim
 ·rintro⟨U,R⟩ s' ⟨J,rfl,_⟩;simp only at J;subst J;exact ae h
def ElT (prog:aC) (w:aO) (h:a9) (es:List (Int × ad)):Prop:=∀ e∈es,∃ k,TK prog w h k e.2/\e.1=aZ5 prog w k
structure SetAt (h:a9) (a:Addr) (es:Array (Int × ad)) (ep:Nat) (t:aS):Prop where
 obj:h.get? a=some { cls:=.type "set",dict:=none,data:=.set es ep t }
 inv:SetI es t
theorem SetAt.state {a:Addr} {es:Array (Int × ad)} {ep:Nat} {t:aS} {Q:(Array (Int × ad) × Nat × aS)->ai->Prop} (S:SetAt s.heap a es ep t) (h:Q (es,ep,t) s):aD (aF prog w) A (setState a) Q E s :=
 db S.obj rfl S.inv.fits h
theorem bJa {a:Addr} {es:Array (Int × ad)} {ep:Nat} {t:aS} {k:List Str} {x:ad} {adding:Bool} (S:SetAt s.heap a es ep t) (hu:A.units < cx) (hel:ElT prog w s.heap es.toList) (hx:TK prog w s.heap k x)
  {M0:Nat} (hM:(road t.mask M0 (start t.mask (aZ5 prog w k))).j∉t.place.toList) {Q:SetFound->ai->Prop}
  (hfound:∀ i?,(adding=true\/i?.isSome=true)->(∃ e∈es.toList,TK prog w s.heap k e.2)->Q (.there i?) s)
  (hfree:∀ j r,j<=t.mask->j∉t.place.toList->(road t.mask r (start t.mask (aZ5 prog w k))).j=j->(∀ r',r' < r->(road t.mask r' (start t.mask (aZ5 prog w k))).j∈t.place.toList)->(¬ ∃ e∈es.toList,TK prog w s.heap k e.2)->Q (.free j false) s) :
  ∀ (fuel m:Nat) (stand:Option Probe),M0 < fuel + m->stand.getD (t.probeStart (aZ5 prog w k))=road t.mask m (start t.mask (aZ5 prog w k)) ->
   (∀ m',m' < m->∃ (i:Nat) (e:Int × ad),t.place[i]?=some (road t.mask m' (start t.mask (aZ5 prog w k))).j/\es[i]?=some e/\¬ TK prog w s.heap k e.2)->m<=M0 ->
   aD (aF prog w) A (setSearchFrom a x (aZ5 prog w k) adding fuel stand) Q E s
 | 0,m,stand,hf,_,_,hm=>by lia
 | fuel + 1,m,stand,hf,hst,U,hm=>by
  unfold setSearchFrom;refine aa (S.state ?_);dsimp only;rw[S.inv.way];simp only[aL,if_false];have v:=PV.road m (aXh t.mask (aZ5 prog w k));have dn:∀ m,(road t.mask m (start t.mask (aZ5 prog w k))).dummy=none:=λm=>by
   induction m with
   | zero=>rfl
   | succ m ih=>rw[aJt,bQq];exact ih
  obtain⟨J,p1,p2⟩:=cZg S.inv.tab S.inv.le (λi=>(es[i]?.map (·.1)).getD 0) (aZ5 prog w k) v (dn m);rw[hst];have ahead:∀ r,r < m + J->∃ (i:Nat) (e:Int × ad),t.place[i]?=some (road t.mask r (start t.mask (aZ5 prog w k))).j/\es[i]?=some e/\¬ TK prog w s.heap k e.2:=λr hr=>by
   by_cases c:r < m
   ·exact U r c
   ·obtain⟨i,G,q2⟩:=p1 (r - m) (by lia)
    rw[<- aQx,show m + (r - m)=r by lia] at G
    obtain⟨hi,_⟩:=c8.mp G;have N:i < es.size:=by rw[<- S.inv.size];exact hi
    have O:es[i]?=some es[i]:=by simp[N]
    refine⟨i,es[i],G,O,λz=>q2 ?_⟩;obtain⟨L,z',eh⟩:=hel es[i] (by simp)
    rw[O];show es[i].1=_;rw[eh,z'.inj z]
  have inplace:∀ r,r < m + J->(road t.mask r (start t.mask (aZ5 prog w k))).j∈t.place.toList:=λr hr=>by
   obtain⟨i,e,q,_⟩:=ahead r hr;exact dF.mpr (eW q)
  have hmM:m + J<=M0:=by
   rcases Nat.lt_or_ge M0 (m + J) with c | c
   ·exact absurd (inplace M0 c) hM
   ·exact c
  rcases p2 with⟨G,q2⟩ | ⟨i,G,q2,q3,q4⟩
  ·generalize hP:aS.probe t _ (aZ5 prog w k) (road t.mask m (start t.mask (aZ5 prog w k)))=pr;have e2:pr=some (.empty (road t.mask J (road t.mask m (start t.mask (aZ5 prog w k)))).j none):=by rw[<- hP];exact q2
   rw[e2];dsimp only;rw[<- aQx] at G ⊢;have pv:=(PV.road (m + J) (aXh t.mask (aZ5 prog w k))).j;refine ae (hfree _ (m + J) (by lia) G rfl inplace ?_)
   rintro⟨e,he,hke⟩;obtain⟨i,hi,ei⟩:=bB he;have O:es[i]?=some e:=by
    have h2:i < es.size:=by simpa using hi
    rw[<- ei];simp[h2]
   have N:i < t.place.size:=by rw[S.inv.size];simpa using hi
   obtain⟨r,r1,r2⟩:=S.inv.reach i t.place[i] e (by simp[N]) O
   obtain⟨L,z',eh⟩:=hel e he;have hk':L=k:=z'.inj hke;rw[eh,hk'] at r1 r2;rcases Nat.lt_or_ge r (m + J) with c | c
   ·obtain⟨i',e',a1,a2,a3⟩:=ahead r c;rw[r1] at a1;have s1:=bJ8 S.inv.tab a1;have s2:=bJ8 (j:=t.place[i]) (i:=i) S.inv.tab (by simp[N])
    rw[s1] at s2;cases s2;rw[O] at a2;cases a2;exact a3 hke
   ·rcases Nat.lt_or_eq_of_le c with c | c
    ·exact G (r2 _ c)
    ·rw[c,r1] at G;exact G (by simp)
  ·generalize hP:aS.probe t _ (aZ5 prog w k) (road t.mask m (start t.mask (aZ5 prog w k)))=pr;have e2:pr=some (.candidate (road t.mask J (road t.mask m (start t.mask (aZ5 prog w k)))).j i (road t.mask (J + 1) (road t.mask m (start t.mask (aZ5 prog w k))))):=by rw[<- hP];exact q4
   rw[e2];dsimp only;have N:i < es.size:=by
    obtain⟨hi,_⟩:=c8.mp G;rw[<- S.inv.size];exact hi
   have O:es[i]?=some es[i]:=by simp[N]
   obtain⟨L,hy,eh⟩:=hel es[i] (by simp)
   by_cases R:t.led=true
   ·rw[R];simp only[fF,aL,if_false];rw[O];obtain⟨b,eb,hb⟩:=hy;obtain⟨bx,ex,Z⟩:=id hx;have D:es[i]=(es[i].1,gq b):=by rw[<- eb]
    rw[D];dsimp only;refine aa (bh ?_);rw[ex];refine wpAny_eqBool_tuple hu hb Z ?_;refine aa (S.state ?_);dsimp only;have yes:L=k->∃ e∈es.toList,TK prog w s.heap k e.2:=λc=>⟨es[i],by simp,⟨b,eb,c ▸ hb⟩⟩
    by_cases B:(adding && decide (L=k))=true
    ·rw[if_pos B];have c:L=k:=by
      simp only[bm,decide_eq_true_eq] at B;exact B.2
     exact ae (hfound none (.inl (by simp only[bm] at B;exact B.1)) (yes c))
    ·rw[if_neg B];have sm:t.sameMemory t.moves t.mask=some true:=by unfold sameMemory;rw[if_pos (by simp)]
     rw[sm];dsimp only;rw[if_pos rfl,q2];dsimp only;rw[O,D];dsimp only;refine aa (wpAny_isSame_ref_self ?_);rw[if_pos rfl];refine aa (ae ?_);dsimp only
     by_cases c:L=k
     ·rw[decide_eq_true c,if_pos rfl];exact ae (hfound _ (.inr rfl) (yes c))
     ·rw[decide_eq_false c,if_neg b8];rw[<- ex];refine bJa S hu hel hx hM hfound hfree fuel (m + J + 1) _ (by lia) ?_ (λr hr=>?_) ?_
      ·show road t.mask (J + 1) (road t.mask m _)=_;rw[<- aQx,Nat.add_assoc]
      ·rcases Nat.lt_or_eq_of_le (Nat.le_of_lt_succ hr) with d | d
       ·exact ahead r d
       ·rw[d];rw[<- aQx] at G;refine⟨i,es[i],G,O,λz=>c ?_⟩;exact TK.inj ⟨b,eb,hb⟩ z
      ·rcases Nat.lt_or_eq_of_le hmM with d | d
       ·exact d
       ·rw[<- aQx] at G;rw[d] at G;exact absurd (dF.mpr (eW G)) hM
   ·have Y:t.led=false:=d7.mpr R;rw[Y];simp only[jr,if_true];refine aa (dJt hx (λy hy'=>?_) ?_)
    ·obtain⟨e,he,rfl⟩:=aH.mp hy';have he':e∈es.toList:=by
      have:=dF.mp he
      exact dF.mpr (Array.mem_filter.mp this).1
     obtain⟨L,z,_⟩:=hel e he';exact⟨L,z⟩
    ·simp only[aL,if_false];rw[O];obtain⟨b,eb,hb⟩:=hy;obtain⟨bx,ex,Z⟩:=id hx;have D:es[i]=(es[i].1,gq b):=by rw[<- eb]
     rw[D];dsimp only;refine aa (bh ?_);rw[ex];refine wpAny_eqBool_tuple hu hb Z ?_;refine aa (S.state ?_);dsimp only;have yes:L=k->∃ e∈es.toList,TK prog w s.heap k e.2:=λc=>⟨es[i],by simp,⟨b,eb,c ▸ hb⟩⟩
     by_cases B:(adding && decide (L=k))=true
     ·rw[if_pos B];have c:L=k:=by
       simp only[bm,decide_eq_true_eq] at B;exact B.2
      exact ae (hfound none (.inl (by simp only[bm] at B;exact B.1)) (yes c))
     ·rw[if_neg B];have sm:t.sameMemory t.moves t.mask=some true:=by unfold sameMemory;rw[if_pos (by simp)]
      rw[sm];dsimp only;rw[if_pos rfl,q2];dsimp only;rw[O,D];dsimp only;refine aa (wpAny_isSame_ref_self ?_);rw[if_pos rfl];refine aa (ae ?_);dsimp only
      by_cases c:L=k
      ·rw[decide_eq_true c,if_pos rfl];exact ae (hfound _ (.inr rfl) (yes c))
      ·rw[decide_eq_false c,if_neg b8];rw[<- ex];refine bJa S hu hel hx hM hfound hfree fuel (m + J + 1) _ (by lia) ?_ (λr hr=>?_) ?_
       ·show road t.mask (J + 1) (road t.mask m _)=_;rw[<- aQx,Nat.add_assoc]
       ·rcases Nat.lt_or_eq_of_le (Nat.le_of_lt_succ hr) with d | d
        ·exact ahead r d
        ·rw[d];rw[<- aQx] at G;refine⟨i,es[i],G,O,λz=>c ?_⟩;exact TK.inj ⟨b,eb,hb⟩ z
       ·rcases Nat.lt_or_eq_of_le hmM with d | d
        ·exact d
        ·rw[<- aQx] at G;rw[d] at G;exact absurd (dF.mpr (eW G)) hM
end
section
variable {prog:aC} {w:aO} {A:aY} {E:ad->ai->Prop} {s:ai}
theorem bJb (a:Addr) (wanted:Nat):setRelay a wanted=(do
 let (es,_,t) <- setState a
 if aS.sizeAbove wanted > sizeLine then eM "set:memory"
 let (es,t) <- (do
  let some (t,order):=t.relaid (es.map (·.1)) wanted | eM "internal:set-table-without-room"
  let es':=order.filterMap (es[·]?)
  if es'.size != es.size then eM "internal:set-table-lost-an-element"
  pure (es',t))
 storeSet a es t):=by rfl
theorem hbvT {k:List Str} {v:ad} {Q:Bool->ai->Prop} (hk:TK prog w s.heap k v) (h:Q (decide (k=[])) s):aD (aF prog w) A (hashByValue 8 v) Q E s:=by
 obtain⟨b,rfl,hk⟩:=hk;have q:=hk.typeIs;obtain⟨o,items,n,j,_,hd,hi⟩:=hk;unfold hashByValue;refine aa (gG q PySem.F.slot_tuple_hash.lookup ?_);dsimp only;refine aa (eH j hd ?_);refine aa ?_;show aD _ _ (forIn items _ _) _ _ s;rw[<- Array.forIn_toList];generalize hits:items.toList=its at hi;cases hi with
 | nil =>
  rw[List.forIn_nil];exact ae (ae h)
 | cons h1 h2 =>
  obtain⟨t,e⟩:=fv h1;subst e;rw[fI];have e2:∀ n x t,hashByValue n (iF x t)=pure false:=λn x t=>by unfold hashByValue;rfl
  rw[e2];refine aa (aa (ae ?_));simp only[jr,if_true];refine ae ?_;exact ae (ae (by simpa using h))
def bQt (prog:aC) (w:aO) (h:a9) (es:List (Int × ad)) (t:aS):Prop:=t.plain=true->∀ e∈es,TK prog w h [] e.2
theorem addT {a:Addr} {es:Array (Int × ad)} {ep:Nat} {t:aS} {k:List Str} {x:ad} (S:SetAt s.heap a es ep t) (hu:A.units < cx) (hel:ElT prog w s.heap es.toList) (hpl:bQt prog w s.heap es.toList t) (hx:TK prog w s.heap k x) (hn:es.size + 1<=300) {Q:Bool->ai->Prop}
  (h:∀ h' es' ep' t' added,SetAt h' a es' ep' t'->dA a s.heap h'->bQt prog w s.heap es'.toList t'->t'.led=t.led ->
   ((added=false/\es'=es/\∃ e∈es.toList,TK prog w s.heap k e.2)\/(added=true/\es'.toList.Perm ((aZ5 prog w k,x)::es.toList)/\¬ ∃ e∈es.toList,TK prog w s.heap k e.2))->Q added { s with heap:=h' }) :
  aD (aF prog w) A (i8 a x (aZ5 prog w k)) Q E s:=by
 unfold i8 setAddHashedIn;refine bh (aa (S.state ?_));dsimp only;have hbs:byScan x es=false:=by
  obtain⟨b,rfl,_⟩:=hx
  rfl
 rw[hbs];simp only[aL,if_false];obtain⟨y,hy,hf⟩:=bQs S.inv.tab S.inv.le;obtain⟨m,hm,e⟩:=eJ1 S.inv.tab.mask (aXh t.mask (aZ5 prog w k)) hy;have hm':m < 100000 + 0:=by
  have:=S.inv.tab.mask
  have:t.mask<=511:=by rcases this with z | z | z | z <;> lia
  lia
 refine aa ?_;unfold setSearch;refine bJa S hu hel hx (M0:=m) (by rw[e];exact hf) (λi? _ hyes=>?_) (λj r hj hfj ej hrj hno=>?_) 100000 0 none hm' rfl (λm' h'=>absurd h' (Nat.not_lt_zero _)) (Nat.zero_le _)
 ·dsimp only;have q:=h s.heap es ep t false S (ip a s.heap) hpl rfl (.inl ⟨rfl,rfl,hyes⟩);exact ae q
 ·dsimp only;refine aa (S.state ?_);dsimp only;have P:=put_set (x:=x) S.inv hj hfj ej hrj true;obtain⟨p1,p2,p3,p4,p5,p6⟩:=P;have Y:(t.put j).1.dummies=#[]:=p3.nodum;have p3r:Ris (t.put j).1.place.toList:=p3.ris;have p3t:∀ a∈(t.put j).1.place.toList,a<=(t.put j).1.mask:=p3.top;generalize hes:aS.insertAt es (t.put j).2 (aZ5 prog w k,x)=B at p1 p2 p6 ⊢;have D:B.toList.Perm ((aZ5 prog w k,x)::es.toList):=by
   rw[p1];refine fm.trans ?_;rw[bj]
  have rest:∀ tt:aS,tt.place=(t.put j).1.place->tt.dummies=#[]->tt.mask=t.mask->tt.led=t.led->(tt.plain=true->t.plain=true/\k=[])->aD (aF prog w) A (do
    storeSet a B tt
    if (!false && tt.tooFull)=true then do
     setRelay a (de (es.size + 1))
     pure true
    else pure true) Q E s:=by
   intro tt h1 h2 h3 h4 h5;have T':Tab tt:=⟨by rw[h3];exact S.inv.tab.mask,h2,by rw[h1];exact p3r,λa ha=>by rw[h1] at ha;rw[h3,<- p5];exact p3t a ha⟩
   have J:∀ L:List (Int × ad),L.Perm ((aZ5 prog w k,x)::es.toList)->∀ t2:aS,t2.plain=tt.plain->bQt prog w s.heap L t2:=by
    intro L hp t2 ht2 hpt ee hee;rw[ht2] at hpt;obtain⟨q1,q2⟩:=h5 hpt;rcases aB.mp (hp.mem_iff.mp hee) with q | q
    ·rw[q,<- q2];exact hx
    ·exact hpl q1 ee q
   have hz:B.size<=sizeLine:=by rw[p2,be];lia
   refine aa (f9 S.obj rfl ?_ hz);have O:(s.heap.update a (dz B tt)).get? a=some { cls:=.type "set",dict:=none,data:=.set B (ep + 1) tt }:=by
    have:=ca (dz B tt) S.obj (by rw[gw _ _ rfl];rfl)
    rw[gw _ _ rfl] at this;exact this
   have R:=bW s.heap a (dz B tt);have tf:tt.tooFull=decide ((es.size + 1) * 5 >= t.mask * 3):=by
    unfold aS.tooFull jx;rw[h2,h1,p4,h3]
    rfl
   have room:=S.inv.room
   by_cases G:(es.size + 1) * 5 >= t.mask * 3
   ·rw[tf,decide_eq_true G];simp only[jr,Bool.and_self,if_true];obtain⟨mask',hm1,hm2,hm3,hm4⟩:=grow S.inv.tab.mask room G hn;obtain⟨t',order,r1,r2,r3,r4⟩:=cXm (es:=B) tt hm1 hm2 (by rw[p2];exact hm3)
    have U:t'.led=tt.led/\t'.plain=tt.plain:=by
     unfold relaid laid at r1;cases hq:layClean (sizeAbove (grown (es.size + 1)) - 1) (Array.map (·.1) B) with
     | none=>rw[hq] at r1;cases r1
     | some ow=>rw[hq] at r1;cases r1;exact⟨rfl,rfl⟩
    have Z:tt.fits B.size=true:=by
     unfold jw jx
     have:t.mask >= 7:=by rcases S.inv.tab.mask with z | z | z | z <;> lia
     simp only[bm,beq_iff_eq,decide_eq_true_eq];rw[h2,h1,p4,p2,h3];refine⟨rfl,?_⟩;show es.size + 1 + 0<=t.mask;lia
    refine aa ?_;rw[bJb];refine aa (db O rfl Z ?_);dsimp only;rw[if_neg hm4,r1];dsimp only;rw[r2];simp only[bne_self_eq_false,aL,if_false,iJ];have hz2:(order.filterMap (B[·]?)).size<=sizeLine:=by rw[r2];exact hz
    refine f9 O rfl ?_ hz2;have ho2:((s.heap.update a (dz B tt)).update a (dz (order.filterMap (B[·]?)) t')).get? a=some { cls:=.type "set",dict:=none,data:=.set (order.filterMap (B[·]?)) (ep + 1 + 1) t' }:=by
     have:=ca (dz (order.filterMap (B[·]?)) t') O (by rw[gw _ _ rfl];rfl)
     rw[gw _ _ rfl] at this;exact this
    have hsb2:=R.trans (bW (s.heap.update a (dz B tt)) a (dz (order.filterMap (B[·]?)) t'));exact ae (h _ _ _ _ true ⟨ho2,r3⟩ hsb2 (J _ (r4.trans D) _ U.2) (U.1.trans h4) (.inr ⟨rfl,r4.trans D,hno⟩))
   ·rw[tf,decide_eq_false G];simp only[jn,aL,if_false];have I':SetI B tt:=by
     refine⟨T',by rw[h1,p4,p2],by rw[h3,p2];lia,λi j' e' q1 q2=>?_⟩
     rw[h1] at q1;obtain⟨r,r1,r2⟩:=p6 i j' e' q1 q2;rw[h3,h1];exact⟨r,r1,r2⟩
    exact ae (h _ _ (ep + 1) _ true ⟨O,I'⟩ R (J _ D _ rfl) h4 (.inr ⟨rfl,D,hno⟩))
  by_cases hp:t.plain=true
  ·have N:(t.put j).1.plain=true:=hp;rw[N];simp only[if_true];refine aa (hbvT hx ?_)
   by_cases hk:k=[]
   ·rw[decide_eq_true hk];simp only[if_true];exact rest (t.put j).1 rfl Y p5 rfl (λ_=>⟨hp,hk⟩)
   ·rw[decide_eq_false hk];simp only[aL,if_false];exact rest { (t.put j).1 with plain:=false } rfl Y p5 rfl (λz=>nomatch z)
  ·have N:(t.put j).1.plain=false:=d7.mpr hp;rw[N];simp only[aL,if_false];refine aa (ae ?_);simp only[if_true];exact rest (t.put j).1 rfl Y p5 rfl (λz=>by rw[N] at z;cases z)
theorem dJu {a:Addr} {es:Array (Int × ad)} {ep:Nat} {t:aS} {k:List Str} {x:ad} (S:SetAt s.heap a es ep t) (hu:A.units < cx) (hel:ElT prog w s.heap es.toList) (hpl:bQt prog w s.heap es.toList t) (hx:TK prog w s.heap k x) (hn:es.size + 1<=300) {Q:Bool->ai->Prop}
  (h:∀ h' tk es' ep' t' added,SetAt h' a es' ep' t'->dA a s.heap h'->bQt prog w s.heap es'.toList t'->t'.led=t.led->s.toks<=tk ->
   ((added=false/\es'=es/\∃ e∈es.toList,TK prog w s.heap k e.2)\/(added=true/\es'.toList.Perm ((aZ5 prog w k,x)::es.toList)/\¬ ∃ e∈es.toList,TK prog w s.heap k e.2))->Q added { s with heap:=h',toks:=tk }) :
  aD (aF prog w) A (setAdd a x) Q E s:=by
 obtain⟨b,rfl,j⟩:=id hx;unfold setAdd;refine bh (aa (wpAny_pyHash_tuple hu j ?_));exact addT (s:={ s with toks:=s.toks + (k.length + 1) }) S hu hel hpl hx hn λh' es' ep' t' added h1 h2 B z q=>h h' _ es' ep' t' added h1 h2 B z (Nat.le_add_right _ _) q
end
def TupKeep (h h':a9):Prop:=∀ b o,h.get? b=some o->o.cls=.type "tuple"->h'.get? b=some o
theorem TupKeep.trans {a b c:a9} (x:TupKeep a b) (y:TupKeep b c):TupKeep a c:=λd o e h=>y d o (x d o e h) h
def setOb (es:Array (Int × ad)) (ep:Nat) (t:aS):Obj:={ cls:=.type "set",dict:=none,data:=.set es ep t }
structure SetKd (prog:aC) (w:aO) (κ:Type) where
 is:a9->κ->ad->Prop
 I:a9->Addr->Array (Int × ad)->Nat->aS->Prop
 inj:∀ {h:a9} {k k':κ} {v:ad},is h k v->is h k' v->k=k'
 obj:∀ {h:a9} {a:Addr} {es:Array (Int × ad)} {ep:Nat} {t:aS},I h a es ep t->h.get? a=some (setOb es ep t)
 fits:∀ {h:a9} {a:Addr} {es:Array (Int × ad)} {ep:Nat} {t:aS},I h a es ep t->t.fits es.size=true
 few:∀ {h:a9} {a:Addr} {es:Array (Int × ad)} {ep:Nat} {t:aS} {ks:List κ},I h a es ep t->bb (λ(e:Int × ad) k=>is h k e.2) es.toList ks->ks.Nodup->t.plain=true->es.size<=1
 fresh:∀ {h:a9} {a:Addr} {led:Bool},h.get? a=some (setOb #[] 0 (.fresh 0 0 led))->I h a #[] 0 (.fresh 0 0 led)
 keepIs:∀ {h h':a9} {k:κ} {v:ad},is h k v->TupKeep h h'->is h' k v
 keepI:∀ {h h':a9} {a:Addr} {es:Array (Int × ad)} {ep:Nat} {t:aS},I h a es ep t->h'.get? a=h.get? a->TupKeep h h'->I h' a es ep t
 add:∀ {A:aY} {E:ad->ai->Prop} {s:ai} {a:Addr} {es:Array (Int × ad)} {ep:Nat} {t:aS} {k:κ} {x:ad} {Q:Bool->ai->Prop},A.units < cx->I s.heap a es ep t->is s.heap k x->es.size + 1<=300 ->
  (∀ h' tk es' ep' t' added,I h' a es' ep' t'->dA a s.heap h'->t'.led=t.led->s.toks<=tk ->
   ((added=false/\es'=es/\∃ e∈es.toList,is s.heap k e.2)\/(added=true/\(∃ hh,es'.toList.Perm ((hh,x)::es.toList))/\¬ ∃ e∈es.toList,is s.heap k e.2))->Q added { s with heap:=h',toks:=tk }) ->
  aD (aF prog w) A (setAdd a x) Q E s
theorem aXb {h h':a9} {a:Addr} {es:Array (Int × ad)} {ep:Nat} {t:aS} (ho:h.get? a=some (setOb es ep t)) (sb:dA a h h'):TupKeep h h':=λb o e c=>by
 refine(sb.2 b ?_).trans e;rintro rfl;rw[ho] at e;have q:o=setOb es ep t:=(aR e).symm;rw[q] at c;have z:cO "set" = cO "tuple":=c;injection z with j
 exact absurd j (by decide)
section
variable {prog:aC} {w:aO}
theorem TK.keep {h h':a9} {k:List Str} {v:ad} (x:TK prog w h k v) (kp:TupKeep h h'):TK prog w h' k v:=by
 obtain⟨b,rfl,o,items,n,q,j,hd,hi⟩:=x;exact⟨b,rfl,o,items,n,kp b o q j,j,hd,hi⟩
theorem bQu {α β:Type} {R:α->β->Prop}:∀ {l:List α} {m:List β},bb R l m->∀ a∈l,∃ b∈m,R a b
 | _,_,.nil,a,h=>nomatch h
 | _,_,.cons r t,a,h=>by
  rcases aB.mp h with rfl | h
  ·exact⟨_,ao,r⟩
  ·obtain⟨b,j,q⟩:=bQu t a h;exact⟨b,aq _ j,q⟩
theorem aJw {α β:Type} {R:α->β->Prop}:∀ {l:List α} {m:List β},bb R l m->∀ b∈m,∃ a∈l,R a b
 | _,_,.nil,a,h=>nomatch h
 | _,_,.cons r t,a,h=>by
  rcases aB.mp h with rfl | h
  ·exact⟨_,ao,r⟩
  ·obtain⟨b,j,q⟩:=aJw t a h;exact⟨b,aq _ j,q⟩
theorem paired_perm {α β:Type} {R:α->β->Prop} {l l':List α} (p:l'.Perm l):∀ {m:List β},bb R l m->∃ m',m'.Perm m/\bb R l' m':=by
 have gen:∀ {l l':List α},l.Perm l'->∀ {m:List β},bb R l m->∃ m',m'.Perm m/\bb R l' m':=by
  intro l l' p
  induction p with
  | nil=>intro m h;cases h;exact⟨[],c9 _,.nil⟩
  | cons x _ G =>
   intro m h;cases h with
   | cons r t =>
    obtain⟨m',h1,h2⟩:=G t;exact⟨_,h1.cons _,.cons r h2⟩
  | swap x y l =>
   intro m h;cases h with
   | cons r t =>
    cases t with
    | cons B z=>exact⟨_,ju.swap _ _ _,.cons B (.cons r z)⟩
  | trans _ _ q j =>
   intro m h;obtain⟨J,a1,b1⟩:=q h;obtain⟨D,a2,b2⟩:=j b1;exact⟨D,a2.trans a1,b2⟩
 intro m h;exact gen p.symm h
theorem few_aux {α β:Type} {R:α->β->Prop} {k0:β} {l:List α} {m:List β} (hp:bb R l m) (h0:∀ a∈l,R a k0) (inj:∀ a b b',R a b->R a b'->b=b') (nd:m.Nodup):l.length<=1:=by
 cases hp with
 | nil=>exact Nat.zero_le _
 | cons q t1 =>
  cases t1 with
  | nil=>exact Nat.le_refl _
  | cons j D =>
   have B:=inj _ _ _ (h0 _ ao) q;have z:=inj _ _ _ (h0 _ (aq _ ao)) j
   have:=(bt.mp nd).1
   exact absurd (by rw[<- B,z];exact ao) this
theorem bZe {P:Int × ad->Prop}:∀ e∈(#[]:Array (Int × ad)).toList,P e:=λe he=>absurd he (by simp)
def tupKd (prog:aC) (w:aO):SetKd prog w (List Str) where
 is:=TK prog w
 I:=λh a es ep t=>SetAt h a es ep t/\ElT prog w h es.toList/\bQt prog w h es.toList t
 inj:=λa b=>a.inj b
 obj:=λx=>x.1.obj
 fits:=λx=>x.1.inv.fits
 few:=λ{h a es ep t ks} x hp nd hpl=>by
  have q:=few_aux hp (x.2.2 hpl) (λ_ _ _ r1 r2=>r1.inj r2) nd;simpa using q
 fresh:=λho=>⟨⟨ho,dQy _ _ _⟩,bZe,λ_=>bZe⟩
 keepIs:=λx kp=>x.keep kp
 keepI:=λx e kp=>⟨⟨by rw[e];exact x.1.obj,x.1.inv⟩,λe he=>by
  obtain⟨k,q1,q2⟩:=x.2.1 e he;exact⟨k,q1.keep kp,q2⟩,λhp e he=>(x.2.2 hp e he).keep kp⟩
 add:=λ{A E s a es ep t k x Q} hu hI hx hn h=>by
  obtain⟨S,hel,hpl⟩:=hI;refine dJu S hu hel hpl hx hn λh' tk es' ep' t' added h1 h2 h3 h4 h5 h6=>?_;have kp:=aXb S.obj h2;refine h h' tk es' ep' t' added ⟨h1,?_,λhp e he=>(h3 hp e he).keep kp⟩ h2 h4 h5 ?_
  ·intro e he;rcases h6 with⟨_,rfl,_⟩ | ⟨_,hp,_⟩
   ·obtain⟨k,q1,q2⟩:=hel e he;exact⟨k,q1.keep kp,q2⟩
   ·rcases aB.mp (hp.mem_iff.mp he) with q | q
    ·rw[q];exact⟨k,hx.keep kp,rfl⟩
    ·obtain⟨k,q1,q2⟩:=hel e q;exact⟨k,q1.keep kp,q2⟩
  ·rcases h6 with q | ⟨q1,q2,q3⟩
   ·exact .inl q
   ·exact .inr ⟨q1,⟨_,q2⟩,q3⟩
theorem bJc (t:aS) (n:Nat):(t.orStandIn n).led=t.led:=by unfold aS.orStandIn;split <;> rfl
theorem addS {A : aY} {E : ad -> ai -> Prop} {s : ai} {a : Addr} {es : Array (Int × ad)} {ep : Nat} {t : aS} {k : Str} {x : ad} {Q : Bool -> ai -> Prop} (ho : s.heap.get? a = some (setOb es ep t)) (hf : t.fits es.size = true) (hel : ElemsOf (strKind prog w) es.toList)
    (hpl : t.plain = true -> es = #[]) (hx : (strKind prog w).is k x = true) (hn : es.size + 1 <= 300)
    (h : ∀ h' es' ep' t' added, h'.get? a = some (setOb es' ep' t') -> t'.fits es'.size = true -> ElemsOf (strKind prog w) es'.toList -> (t'.plain = true -> es' = #[]) -> dA a s.heap h' -> t'.led = t.led ->
      ((added = false /\ es' = es /\ ∃ e ∈ es.toList, (strKind prog w).is k e.2 = true) \/ (added = true /\ es'.toList.Perm (((strKind prog w).hash k, x) :: es.toList) /\ ¬ ∃ e ∈ es.toList, (strKind prog w).is k e.2 = true)) -> Q added { s with heap := h' }) :
    aD (aF prog w) A (i8 a x ((strKind prog w).hash k)) Q E s := by
  obtain⟨tok, rfl⟩ := fv hx;have hb : es.size < scanBound := by unfold scanBound; lia
  unfold i8 setAddHashedIn;refine bh (aa (db ho rfl hf ?_));dsimp only;rw [byScan_of rfl hb hel];simp only [↓reduceIte];unfold setAddByScan;refine aa ?_;refine aa (c7 ?_);refine aa (wpAny_setScan_of hx ho rfl hf hel ?_);cases hr : List.findIdx? (λe => (strKind prog w).is k e.2) es.toList with
  | some j =>
    dsimp only;obtain⟨hj, hpj, _⟩ := List.findIdx?_eq_some_iff_getElem.mp hr;refine ae (ae ?_);exact h s.heap es ep t false ho hf hel hpl (ip a s.heap) rfl (.inl ⟨rfl, rfl, es.toList[j], cM hj, hpj⟩)
  | none =>
    dsimp only;have hno : ¬ ∃ e ∈ es.toList, (strKind prog w).is k e.2 = true := by
      rintro⟨e, he, Y⟩;have := List.findIdx?_eq_none_iff.mp hr e he;rw [Y] at this; exact Bool.noConfusion this
    have hgw : ∀ (b : Bool) {s1 : ai} {Q' : Unit -> ai -> Prop}, Q' () s1 -> aD (aF prog w) A (match b with | true => rule "set.scan.the-table-gave-way" | false => pure ()) Q' E s1 :=
      λb s1 Q' hq => by cases b <;> first | exact ae hq | exact c7 hq
    have q := layNew_perm t es ((strKind prog w).hash k) (.str k tok);have D := layNew_fits t es ((strKind prog w).hash k) (.str k tok);have G : (layNew t es ((strKind prog w).hash k) (.str k tok)).2.1.led = t.led := by
      unfold layNew
      split
      · exact bJc _ _
      · rfl
    generalize hL : layNew t es ((strKind prog w).hash k) (.str k tok) = L at q D G ⊢;obtain⟨es1, t1, J, gave⟩ := L;dsimp only at q D G ⊢;rw [b4] at q;have B : es1.toList.Perm (((strKind prog w).hash k, .str k tok) :: es.toList) := q.trans (hJ _ _);have U : ElemsOf (strKind prog w) es1.toList := (hel.push hx rfl).perm q;have hsz1 : es1.size = es.size + 1 := by
      have := B.length_eq;simpa using this
    have hz1 : es1.size <= sizeLine := by rw [hsz1, be]; lia
    refine aa (hgw _ ?_)
    have rest : ∀ t2 : aS, t2.fits es1.size = true -> t2.plain = false -> t2.led = t.led -> aD (aF prog w) A (do
        storeSet a es1 t2
        if (!J && t2.tooFull) = true then do
            (match (iP t2 es1 (de es1.size)).2.2 with | true => rule "set.scan.the-table-gave-way" | false => pure ())
            storeSet a (iP t2 es1 (de es1.size)).1 (iP t2 es1 (de es1.size)).2.1
            pure (some true)
          else pure (some true)) (λr s' => aD (aF prog w) A (match r with | some added => pure added | none => setAddHashedIn a (.str k tok) ((strKind prog w).hash k) 99999) Q E s') E s := by
      intro t2 q1 q2 q3;refine aa (f9 ho rfl ?_ hz1);have Z : (s.heap.update a (dz es1 t2)).get? a = some (setOb es1 (ep + 1) t2) := by
        have := ca (dz es1 t2) ho (by rw [gw _ _ rfl]; rfl)
        rw [gw _ _ rfl] at this; exact this
      have R := bW s.heap a (dz es1 t2)
      split
      · have Y := relayAll_perm t2 es1 (de es1.size)
        have hfr := relayAll_fits t2 es1 (de es1.size);have O : (iP t2 es1 (de es1.size)).2.1.led = t2.led /\ (iP t2 es1 (de es1.size)).2.1.plain = false := by
          unfold iP
          split
          · rename_i t' order hq
            have : t'.led = t2.led /\ t'.plain = t2.plain := by
              unfold relaid laid at hq;cases hc : layClean (sizeAbove (de es1.size) - 1) (Array.map (·.1) es1) with
              | none => rw [hc] at hq; cases hq
              | some ow => rw [hc] at hq; cases hq; exact⟨rfl, rfl⟩
            dsimp only
            split
            · exact⟨this.1, this.2.trans q2⟩
            · exact⟨rfl, rfl⟩
          · exact⟨rfl, rfl⟩
        generalize hRl : iP t2 es1 (de es1.size) = Rl at Y hfr O ⊢;obtain⟨N, t3, gave2⟩ := Rl;dsimp only at Y hfr O ⊢;have hsz2 : N.size = es1.size := by
          have := Y.length_eq;simpa using this
        refine aa (hgw _ ?_);refine aa (f9 Z rfl ?_ (by rw [hsz2]; exact hz1))
        have ho2 : ((s.heap.update a (dz es1 t2)).update a (dz N t3)).get? a = some (setOb N (ep + 1 + 1) t3) := by
          have := ca (dz N t3) Z (by rw [gw _ _ rfl]; rfl)
          rw [gw _ _ rfl] at this; exact this
        refine ae (ae ?_);exact h _ N _ t3 true ho2 hfr (U.perm Y) (λz => by rw [O.2] at z; cases z) (R.trans (bW _ a _)) (O.1.trans q3) (.inr ⟨rfl, Y.trans B, hno⟩)
      · refine ae (ae ?_)
        exact h _ es1 _ t2 true Z q1 U (λz => by rw [q2] at z; cases z) R q3 (.inr ⟨rfl, B, hno⟩)
    split
    · refine aa ?_
      rw [hashByValue_scannable 8 rfl];refine ae ?_;exact rest _ (aS.fits_plain_off D) rfl G
    · rename_i hnp
      refine aa (ae ?_);simp only [↓reduceIte];exact rest t1 D (d7.mpr hnp) G
end
section
variable {prog:aC} {w:aO}
def strKd (prog:aC) (w:aO):SetKd prog w Str where
 is:=λ_ k v=>(dE prog w).is k v=true
 I:=λh a es ep t=>h.get? a=some (setOb es ep t)/\t.fits es.size=true/\ElemsOf (dE prog w) es.toList/\(t.plain=true->es=#[])
 inj:=λa b=>(dE prog w).inj _ _ _ a b
 obj:=λx=>x.1
 fits:=λx=>x.2.1
 few:=λx _ _ hp=>by rw[x.2.2.2 hp];exact Nat.zero_le _
 fresh:=λho=>⟨ho,rfl,bZe,λ_=>rfl⟩
 keepIs:=λx _=>x
 keepI:=λx e _=>⟨by rw[e];exact x.1,x.2⟩
 add:=λ{A E s a es ep t k x Q} hu hI hx hn h=>by
  obtain⟨ho,hf,hel,hpl⟩:=hI;unfold setAdd;refine bh (aa ((dE prog w).pyHash hx ?_));exact addS (s:={ s with toks:=s.toks + 1 }) ho hf hel hpl hx hn λh' es' ep' t' added h1 h2 h3 h4 h5 h6 h7=>h h' _ es' ep' t' added ⟨h1,h2,h3,h4⟩ h5 h6 (Nat.le_succ _) (by
   rcases h7 with q | ⟨q1,q2,q3⟩
   ·exact .inl q
   ·exact .inr ⟨q1,⟨_,q2⟩,q3⟩)
structure Mem {κ:Type} (D:SetKd prog w κ) (h:a9) (a:Addr) (done:List κ) (led:Bool) (ks:List κ):Prop where
 ex:∃ es ep t,D.I h a es ep t/\t.led=led/\bb (λ(e:Int × ad) k=>D.is h k e.2) es.toList ks
 nd:ks.Nodup
 mem:∀ k,k∈ks↔k∈done
theorem Mem.keep {κ:Type} {D:SetKd prog w κ} {h h':a9} {a:Addr} {done:List κ} {led:Bool} {ks:List κ} (M:Mem D h a done led ks) (e:h'.get? a=h.get? a) (kp:TupKeep h h'):Mem D h' a done led ks:=by
 obtain⟨es,z,t,h1,h2,j⟩:=M.ex;exact⟨⟨es,z,t,D.keepI h1 e kp,h2,L2.Paired.mapP j λ_ _ q=>D.keepIs q kp⟩,M.nd,M.mem⟩
theorem Mem.size {κ:Type} {D:SetKd prog w κ} {h:a9} {a:Addr} {done:List κ} {led:Bool} {ks:List κ} (M:Mem D h a done led ks):ks.length<=done.length :=
 M.nd.length_le_of_subset λk j=>(M.mem k).mp j
theorem addM {κ:Type} [DecidableEq κ] (D:SetKd prog w κ) {A:aY} {E:ad->ai->Prop} {s:ai} {a:Addr} {done:List κ} {led:Bool} {ks:List κ} {k:κ} {x:ad} {Q:Bool->ai->Prop} (hu:A.units < cx) (M:Mem D s.heap a done led ks) (hx:D.is s.heap k x) (hn:ks.length + 1<=300)
  (h:∀ h' tk ks',Mem D h' a (done++[k]) led ks'->dA a s.heap h'->TupKeep s.heap h'->s.toks<=tk->Q (decide (k∉ks)) { s with heap:=h',toks:=tk }) :
  aD (aF prog w) A (setAdd a x) Q E s:=by
 obtain⟨es,ep,t,h1,h2,N⟩:=M.ex;have hl:es.size=ks.length:=by have:=b6 N;simpa using this
 refine D.add hu h1 hx (by lia) λh' tk G J t' added q1 Z q3 q4 q5=>?_
 have kp:=aXb (D.obj h1) Z;have B:bb (λ(e:Int × ad) k=>D.is h' k e.2) es.toList ks:=L2.Paired.mapP N λ_ _ q=>D.keepIs q kp;have isin:(∃ e∈es.toList,D.is s.heap k e.2)↔k∈ks:=by
  constructor
  ·rintro⟨e,he,q⟩;obtain⟨L,hk',q'⟩:=bQu N e he;rw[D.inj q q'];exact hk'
  ·intro j;obtain⟨e,he,q⟩:=aJw N k j;exact⟨e,he,q⟩
 rcases q5 with⟨Y,U,O⟩ | ⟨Y,⟨hh,U⟩,O⟩
 ·have j:=isin.mp O;have q:=h h' tk ks ⟨⟨G,J,t',q1,q3.trans h2,by rw[U];exact B⟩,M.nd,λL=>by
   rw[M.mem L,ar,aE];exact⟨.inl,λz=>z.elim id λz=>by rw[z];exact(M.mem k).mp j⟩⟩ Z kp q4
  rw[decide_eq_false (λz=>z j)] at q;rw[Y];exact q
 ·have j:k∉ks:=λz=>O (isin.mpr z);obtain⟨ks',p1,p2⟩:=paired_perm U (R:=λ(e:Int × ad) k=>D.is h' k e.2) (m:=k::ks) (.cons (D.keepIs hx kp) B);have q:=h h' tk ks' ⟨⟨G,J,t',q1,q3.trans h2,p2⟩,p1.nodup_iff.mpr (bt.mpr ⟨j,M.nd⟩),λL=>by
   rw[p1.mem_iff,aB,ar,aE,M.mem L];exact⟨λz=>z.symm,λz=>z.symm⟩⟩ Z kp q4
  rw[decide_eq_true j] at q;rw[Y];exact q
theorem dZ2 {κ:Type} [DecidableEq κ] (D:SetKd prog w κ) {A:aY} {R:Result->ai->Prop} {I S l:Addr} {items:Array ad} {ks:List κ} {led:Bool} (hh:A.in1.handled=none) (hu:A.in1.units < cx) (hne:l≠I) (hSI:S≠I) (hSl:S≠l) {cs:List κ} (hcs:∀ k∈ks,k∈cs) (hn:cs.length + 1<=300) :
  ∀ (j i:Nat) (s:ai),items.size - i=j->i<=items.size->s.heap.IsListIter I l i->s.heap.IsList l items->bb (λv k=>D.is s.heap k v) items.toList ks->(∃ ms,Mem D s.heap S (ks.take i) led ms) ->
   (∀ h' tk ms,Mem D h' S ks led ms->TupKeep s.heap h'->(∀ b o,b≠S->b≠I->s.heap.get? b=some o->h'.get? b=some o)->R (.ok (.ret .none)) { s with heap:=h',toks:=tk }) ->
   fj (aF prog w) A (.builtin "set.update.loop" ⟨[.ref S,.ref I],[]⟩) R s:=by
 have Y:∀ {h h':a9} {i:Nat},h.IsListIter I l i->(∀ b o,b≠I->h.get? b=some o->h'.get? b=some o)->TupKeep h h':=λst k b o e c=>k b o (by
  rintro rfl;obtain⟨o',e',c',_⟩:=st;rw[e] at e';cases e';rw[c] at c';injection c' with c''
  exact absurd c'' (by decide)) e
 intro j
 induction j with
 | zero =>
  intro i s hj hi z hl L hM hR;have hin:i=items.size:=by lia
  subst hin;refine cj cP ?_;rw[bQ bM _];show aD _ A.in1 (eV (.ref I) >>= _) _ _ s;refine aa (gh hh z hl (by simp) λh' eb=>?_)
  show aD _ A.in1 (ret bX) _ _ _;have kp:=Y z λb o hb e=>eb b o hb e;obtain⟨ms,M⟩:=hM;have hlen:ks.length=items.size:=by have:=b6 L;simpa using this.symm
  rw[bE (by lia)] at M
  obtain⟨es,ep,t,h1,_⟩:=id M.ex;have hS:=D.obj h1;exact ae (hR h' s.toks ms (M.keep (by rw[hS];exact eb S _ hSI hS) kp) kp λb o _ hb e=>eb b o hb e)
 | succ j ih =>
  intro i s hj hi z hl L hM hR;have N:i < items.size:=by lia
  refine cj cP ?_;rw[bQ bM _];show aD _ A.in1 (eV (.ref I) >>= _) _ _ s;refine aa (fT z hl (x:=items[i]) (by simp[N]) λh1 st1 B=>?_)
  have G:=Y z λb o hb e=>(B.2 b hb).trans e;obtain⟨ms,M⟩:=hM;obtain⟨es,ep,t,q1,_⟩:=id M.ex;have hS:=D.obj q1;have M1:=M.keep (h':=h1) (by rw[B.2 S hSI]) G
  have hlen:ks.length=items.size:=by have:=b6 L;simpa using this.symm
  have Z:ks[i]?=some ks[i]:=af (by lia)
  have hx:D.is s.heap ks[i] items[i]:=by
   have gen:∀ {l:List ad} {m:List κ},bb (λv k=>D.is s.heap k v) l m->∀ (n:Nat) (v:ad) (k:κ),l[n]?=some v->m[n]?=some k->D.is s.heap k v:=by
    intro l m L
    induction L with
    | nil=>intro n v k h;simp at h
    | cons r _ ih =>
     intro n v k h1 h2;cases n with
     | zero=>simp at h1 h2;subst h1;subst h2;exact r
     | succ n=>exact ih n v k (by simpa using h1) (by simpa using h2)
   exact gen L i _ _ (by simp[N]) Z
  show aD _ A.in1 (fG [items[i]] (setAdd S items[i]) >>= _) _ _ _;refine aa (bh ?_);have hms:ms.length<=cs.length:=M1.nd.length_le_of_subset λk hk=>hcs k (b5 ((M1.mem k).mp hk));refine addM D (s:={ s with heap:=h1 }) hu M1 (D.keepIs hx G) (by lia) λh2 tk ms' M2 J U htk=>?_
  have hl2:h2.IsList l items:=by
   obtain⟨o,e,r⟩:=hl;exact⟨o,(J.2 l (cf hSl)).trans ((B.2 l hne).trans e),r⟩
  have st2:h2.IsListIter I l (i + 1):=by
   obtain⟨o,e,r⟩:=st1;exact⟨o,(J.2 I (cf hSI)).trans e,r⟩
  refine ae ⟨er bM _,ih (i + 1) _ (by lia) N st2 hl2 (L2.Paired.mapP L λ_ _ q=>D.keepIs q (G.trans U)) ⟨ms',?_⟩ λh' tk' O a1 a2 a3=>?_⟩
  ·have et:ks.take (i + 1)=ks.take i++[ks[i]]:=by rw[dH,Z];rfl
   rw[et];exact M2
  ·exact hR h' tk' O a1 ((G.trans U).trans a2) λb o hb1 hb2 e=>a3 b o hb1 hb2 ((J.2 b hb1).trans ((B.2 b hb2).trans e))
abbrev ledOf (w:aO):Bool:=!(w.params.followText "set-order")
theorem cQe {A:aY} {E:ad->ai->Prop} {s:ai} (a:ad) {Q1:ad->ai->Prop}
  (h:Q1 (.ref s.heap.objs.size) { s with heap:=s.heap.push (setOb #[] 0 (.fresh 0 0 (ledOf w))) }) :
  fj (aF prog w) A (.call (.builtin "set.__new__") ⟨[.type "set",a],[]⟩) (wants Q1 E) s:=by
 refine gF ?_;show aD _ A.in1 (do checkBuiltinCall "set.__new__" ⟨[.type "set",a],[]⟩;again (.builtin "set.__new__" ⟨[.type "set",a],[]⟩)) _ _ s
 refine aa (wpAny_of_eq (PySem.F.newCall_set_1 a) (ae ⟨er ji _,cj PySem.F.entry_set_new ?_⟩));rw[bQ ji _];unfold cg.«set.__new__» cg.Frozenset.newClass;have j:=sub_set_self;obtain⟨z,g,d,q,os⟩:=s;dsimp only
 wp_walk
 refine dW (ae ?_);dsimp only;simp only[newObj];refine aa (wpAny_alloc (ae ?_));exact ae h
end
section
variable {prog:aC} {w:aO}
theorem cZh {κ:Type} [DecidableEq κ] (D:SetKd prog w κ) {A:aY} {E:ad->ai->Prop} {s:ai} {l:Addr} {items:Array ad} {ks:List κ} {Q:ad->ai->Prop}
  (hh:A.handled=none) (hu:A.units + 8 < cx) (hl:s.heap.IsList l items) (hi:bb (λv k=>D.is s.heap k v) items.toList ks) {cs:List κ} (hcs:∀ k∈ks,k∈cs) (hb:cs.length + 1<=300)
  (h:∀ (h':a9) (tk:Nat) ms,Mem D h' s.heap.objs.size ks (ledOf w) ms->TupKeep s.heap h' ->
   (∀ b o,b < s.heap.objs.size->s.heap.get? b=some o->h'.get? b=some o)->Q (.ref s.heap.objs.size) { s with heap:=h',toks:=tk }) :
  aD (aF prog w) A (call (.type "set") [.ref l]) Q E s:=by
 obtain⟨c,tl,hmro⟩:=bo.mro;have hmade:=bo.made;have hsub:=bo.sub;refine wpAny_call (gF ?_);show aD _ _ (callAny (.type "set") _) _ _ _;refine ae ⟨Code.quiet_builtin _ (by decide +kernel),cj iQ ?_⟩
 rw[Around.under_plain (weight_type_call_type "set" [.ref l] []) rfl];have h1:=bo.notType;have h2:=bo.canCreate;have hct:=i9 (.ref l)
 repeat (any_goals (first | assumption | wp_step))
 refine fk (cQe (.ref l) (E:=E) (Q1:=λobj s1=>obj=.ref s.heap.objs.size/\s1={ s with heap:=s.heap.push (setOb #[] 0 (.fresh 0 0 (ledOf w))) }) ⟨rfl,rfl⟩) λr s1 hr=>?_
 cases r with
 | error e=>exact hr
 | ok fl =>
  cases fl with
  | ret obj =>
   obtain⟨rfl,rfl⟩:=hr;have hS:(s.heap.push (setOb #[] 0 (.fresh 0 0 (ledOf w)))).get? s.heap.objs.size=some (setOb #[] 0 (.fresh 0 0 (ledOf w))):=ax _ rfl;have hT:iy { s with heap:=s.heap.push (setOb #[] 0 (.fresh 0 0 (ledOf w))) } (.ref s.heap.objs.size) "set":=⟨_,hS,rfl⟩
   have hli:=bo.init.lookup;have hbi:=bo.init.bind (.ref s.heap.objs.size)
   repeat (any_goals (first | assumption | wp_step))
   refine fk (codeAny_call_builtin (R:=wants (λr s2=>r=.none/\∃ h' tk ms,s2={ s with heap:=h',toks:=tk }/\Mem D h' s.heap.objs.size ks (ledOf w) ms/\TupKeep s.heap h' /\
     (∀ b o,b < s.heap.objs.size->s.heap.get? b=some o->h'.get? b=some o)) E) bo.init.plain ja (check_set_init_1 hT ?_)) λr2 s2 G=>?_
   ·obtain⟨ol,N,hcl,nl,hdl⟩:=hl;obtain⟨ocls,z,odata,j⟩:=ol;simp only at hcl hdl;subst hcl;subst hdl;have L:(s.heap.push (setOb #[] 0 (.fresh 0 0 (ledOf w)))).get? l=some { cls:=.type "list",dict:=z,data:=.seq items nl,slots:=j }:=ag _ N;have hsls:=PySem.F.sub_list_set;have hslf:=PySem.F.sub_list_frozenset;have hne:(cO "list" == cO "dict")=false:=by decide
    have Y:(s.heap.push (setOb #[] 0 (.fresh 0 0 (ledOf w)))).IsList l items:=⟨_,L,rfl,nl,rfl⟩;unfold cg.«set.__init__» noKeywords gH;generalize hPI:pyIter=PI;unfold setOb at *
    wp_walk
    subst hPI;refine d9 Y ?_;refine aa (wpAny_runValue ?_);have U:l < s.heap.objs.size:=az N;have hh3:A.in1.in1.in1.handled=none:=by simp[hh]
    have hu3:A.in1.in1.in1.units < cx:=by show A.units + 1 + 1 + 1 < cx;lia
    have O:l≠(s.heap.push { cls:=.type "set",dict:=none,data:=.set #[] 0 (.fresh 0 0 (ledOf w)) }).objs.size:=by
     rw[cE];exact Nat.ne_of_lt (Nat.lt_succ_of_lt U)
    have hSI:s.heap.objs.size≠(s.heap.push { cls:=.type "set",dict:=none,data:=.set #[] 0 (.fresh 0 0 (ledOf w)) }).objs.size:=by
     rw[cE];exact Nat.ne_of_lt (Nat.lt_succ_self _)
    have kp:TupKeep s.heap ((s.heap.push { cls:=.type "set",dict:=none,data:=.set #[] 0 (.fresh 0 0 (ledOf w)) }).push { cls:=.type "list_iterator",data:=.fields #[.ref l,.int 0 0] }):=λb o e _=>ag _ (ag _ e)
    have Z:((s.heap.push { cls:=.type "set",dict:=none,data:=.set #[] 0 (.fresh 0 0 (ledOf w)) }).push { cls:=.type "list_iterator",data:=.fields #[.ref l,.int 0 0] }).get? s.heap.objs.size
       = some (setOb #[] 0 (.fresh 0 0 (ledOf w))):=ag _ hS
    refine dZ2 D hh3 hu3 O hSI (cf (Nat.ne_of_lt U)) hcs hb (items.size - 0) 0 _ (by lia) (Nat.zero_le _) ⟨_,ax _ rfl,rfl,rfl⟩ (Y.push _) (L2.Paired.mapP hi λ_ _ q=>D.keepIs q kp)
     ⟨[],⟨⟨#[],0,.fresh 0 0 (ledOf w),D.fresh Z,rfl,.nil⟩,dG,λk=>by simp⟩⟩ ?hR
    case hR =>
     intro h' tk' ms hM B J;show aD _ _ _ _ _ _;refine ae ?_;show aD _ _ (ret bX) _ _ _;refine ae ⟨rfl,h',tk',ms,rfl,hM,kp.trans B,λb o hb e=>?_⟩;exact J b o (Nat.ne_of_lt hb) (by rw[cE];exact Nat.ne_of_lt (Nat.lt_succ_of_lt hb)) (ag _ (ag _ e))
   ·cases r2 with
    | error e=>exact G
    | ok fl2 =>
     cases fl2 with
     | ret r =>
      obtain⟨rfl,h',tk,ms,rfl,hM,B,J⟩:=G
      repeat (any_goals (first | assumption | wp_step))
      exact h _ _ _ hM B J
     | _=>exact G.elim
  | _=>exact hr.elim
theorem call_setK {κ:Type} [DecidableEq κ] (D:SetKd prog w κ) {A:aY} {E:ad->ai->Prop} {s:ai} {l:Addr} {items:Array ad} {ks:List κ} {Q:ad->ai->Prop}
  (hh:A.handled=none) (hu:A.units + 8 < cx) (hl:s.heap.IsList l items) (hi:bb (λv k=>D.is s.heap k v) items.toList ks) (hb:items.size + 1<=300)
  (h:∀ (h':a9) (tk:Nat) ms,Mem D h' s.heap.objs.size ks (ledOf w) ms->TupKeep s.heap h' ->
   (∀ b o,b < s.heap.objs.size->s.heap.get? b=some o->h'.get? b=some o)->Q (.ref s.heap.objs.size) { s with heap:=h',toks:=tk }) :
  aD (aF prog w) A (call (.type "set") [.ref l]) Q E s :=
 cZh D hh hu hl hi (cs:=ks) (λ_ h=>h) (by have:=b6 hi;simp at this;lia) h
end
section
variable {prog:aC} {w:aO}
theorem cXn {κ:Type} [DecidableEq κ] (D:SetKd prog w κ) {A:aY} {R:Result->ai->Prop} {I S l:Addr} {items:Array ad} {ks:List κ} {led:Bool} (hh:A.in1.handled=none) (hu:A.in1.units < cx) (hne:l≠I) (hSI:S≠I) (hSl:S≠l) (hn:items.size + 1<=300) :
  ∀ (j i:Nat) (s:ai),items.size - i=j->i<=items.size->s.heap.IsTupleIter I l i->s.heap.IsTuple l items->bb (λv k=>D.is s.heap k v) items.toList ks->(∃ ms,Mem D s.heap S (ks.take i) led ms) ->
   (∀ h' tk ms,Mem D h' S ks led ms->TupKeep s.heap h'->(∀ b o,b≠S->b≠I->s.heap.get? b=some o->h'.get? b=some o)->R (.ok (.ret .none)) { s with heap:=h',toks:=tk }) ->
   fj (aF prog w) A (.builtin "set.update.loop" ⟨[.ref S,.ref I],[]⟩) R s:=by
 have Y:∀ {h h':a9} {i:Nat},h.IsTupleIter I l i->(∀ b o,b≠I->h.get? b=some o->h'.get? b=some o)->TupKeep h h':=λst k b o e c=>k b o (by
  rintro rfl;obtain⟨o',e',c',_⟩:=st;rw[e] at e';cases e';rw[c] at c';injection c' with c''
  exact absurd c'' (by decide)) e
 intro j
 induction j with
 | zero =>
  intro i s hj hi z hl L hM hR;have hin:i=items.size:=by lia
  subst hin;refine cj cP ?_;rw[bQ bM _];show aD _ A.in1 (eV (.ref I) >>= _) _ _ s;refine aa (wpAny_pyNext_tuple_end hh z hl (by simp) λh' eb=>?_)
  show aD _ A.in1 (ret bX) _ _ _;have kp:=Y z λb o hb e=>eb b o hb e;obtain⟨ms,M⟩:=hM;have hlen:ks.length=items.size:=by have:=b6 L;simpa using this.symm
  rw[bE (by lia)] at M
  obtain⟨es,ep,t,h1,_⟩:=id M.ex;have hS:=D.obj h1;exact ae (hR h' s.toks ms (M.keep (by rw[hS];exact eb S _ hSI hS) kp) kp λb o _ hb e=>eb b o hb e)
 | succ j ih =>
  intro i s hj hi z hl L hM hR;have N:i < items.size:=by lia
  refine cj cP ?_;rw[bQ bM _];show aD _ A.in1 (eV (.ref I) >>= _) _ _ s;refine aa (wpAny_pyNext_tuple_item z hl (x:=items[i]) (by simp[N]) λh1 st1 B=>?_)
  have G:=Y z λb o hb e=>(B.2 b hb).trans e;obtain⟨ms,M⟩:=hM;obtain⟨es,ep,t,q1,_⟩:=id M.ex;have hS:=D.obj q1;have M1:=M.keep (h':=h1) (by rw[B.2 S hSI]) G
  have hlen:ks.length=items.size:=by have:=b6 L;simpa using this.symm
  have Z:ks[i]?=some ks[i]:=af (by lia)
  have hx:D.is s.heap ks[i] items[i]:=by
   have gen:∀ {l:List ad} {m:List κ},bb (λv k=>D.is s.heap k v) l m->∀ (n:Nat) (v:ad) (k:κ),l[n]?=some v->m[n]?=some k->D.is s.heap k v:=by
    intro l m L
    induction L with
    | nil=>intro n v k h;simp at h
    | cons r _ ih =>
     intro n v k h1 h2;cases n with
     | zero=>simp at h1 h2;subst h1;subst h2;exact r
     | succ n=>exact ih n v k (by simpa using h1) (by simpa using h2)
   exact gen L i _ _ (by simp[N]) Z
  show aD _ A.in1 (fG [items[i]] (setAdd S items[i]) >>= _) _ _ _;refine aa (bh ?_);refine addM D (s:={ s with heap:=h1 }) hu M1 (D.keepIs hx G) (by have:=M1.size;rw[aQ] at this;lia) λh2 tk ms' M2 J U htk=>?_
  have hl2:h2.IsTuple l items:=by
   obtain⟨o,e,r⟩:=hl;exact⟨o,(J.2 l (cf hSl)).trans ((B.2 l hne).trans e),r⟩
  have st2:h2.IsTupleIter I l (i + 1):=by
   obtain⟨o,e,r⟩:=st1;exact⟨o,(J.2 I (cf hSI)).trans e,r⟩
  refine ae ⟨er bM _,ih (i + 1) _ (by lia) N st2 hl2 (L2.Paired.mapP L λ_ _ q=>D.keepIs q (G.trans U)) ⟨ms',?_⟩ λh' tk' O a1 a2 a3=>?_⟩
  ·have et:ks.take (i + 1)=ks.take i++[ks[i]]:=by rw[dH,Z];rfl
   rw[et];exact M2
  ·exact hR h' tk' O a1 ((G.trans U).trans a2) λb o hb1 hb2 e=>a3 b o hb1 hb2 ((J.2 b hb1).trans ((B.2 b hb2).trans e))
theorem call_setT {κ:Type} [DecidableEq κ] (D:SetKd prog w κ) {A:aY} {E:ad->ai->Prop} {s:ai} {l:Addr} {items:Array ad} {ks:List κ} {Q:ad->ai->Prop}
  (hh:A.handled=none) (hu:A.units + 8 < cx) (hl:s.heap.IsTuple l items) (hi:bb (λv k=>D.is s.heap k v) items.toList ks) (hb:items.size + 1<=300)
  (h:∀ (h':a9) (tk:Nat) ms,Mem D h' s.heap.objs.size ks (ledOf w) ms->TupKeep s.heap h' ->
   (∀ b o,b < s.heap.objs.size->s.heap.get? b=some o->h'.get? b=some o)->Q (.ref s.heap.objs.size) { s with heap:=h',toks:=tk }) :
  aD (aF prog w) A (call (.type "set") [.ref l]) Q E s:=by
 obtain⟨c,tl,hmro⟩:=bo.mro;have hmade:=bo.made;have hsub:=bo.sub;refine wpAny_call (gF ?_);show aD _ _ (callAny (.type "set") _) _ _ _;refine ae ⟨Code.quiet_builtin _ (by decide +kernel),cj iQ ?_⟩
 rw[Around.under_plain (weight_type_call_type "set" [.ref l] []) rfl];have h1:=bo.notType;have h2:=bo.canCreate;have hct:=i9 (.ref l)
 repeat (any_goals (first | assumption | wp_step))
 refine fk (cQe (.ref l) (E:=E) (Q1:=λobj s1=>obj=.ref s.heap.objs.size/\s1={ s with heap:=s.heap.push (setOb #[] 0 (.fresh 0 0 (ledOf w))) }) ⟨rfl,rfl⟩) λr s1 hr=>?_
 cases r with
 | error e=>exact hr
 | ok fl =>
  cases fl with
  | ret obj =>
   obtain⟨rfl,rfl⟩:=hr;have hS:(s.heap.push (setOb #[] 0 (.fresh 0 0 (ledOf w)))).get? s.heap.objs.size=some (setOb #[] 0 (.fresh 0 0 (ledOf w))):=ax _ rfl;have hT:iy { s with heap:=s.heap.push (setOb #[] 0 (.fresh 0 0 (ledOf w))) } (.ref s.heap.objs.size) "set":=⟨_,hS,rfl⟩
   have hli:=bo.init.lookup;have hbi:=bo.init.bind (.ref s.heap.objs.size)
   repeat (any_goals (first | assumption | wp_step))
   refine fk (codeAny_call_builtin (R:=wants (λr s2=>r=.none/\∃ h' tk ms,s2={ s with heap:=h',toks:=tk }/\Mem D h' s.heap.objs.size ks (ledOf w) ms/\TupKeep s.heap h' /\
     (∀ b o,b < s.heap.objs.size->s.heap.get? b=some o->h'.get? b=some o)) E) bo.init.plain ja (check_set_init_1 hT ?_)) λr2 s2 G=>?_
   ·obtain⟨ol,N,hcl,nl,hdl⟩:=hl;obtain⟨ocls,z,odata,j⟩:=ol;simp only at hcl hdl;subst hcl;subst hdl;have L:(s.heap.push (setOb #[] 0 (.fresh 0 0 (ledOf w)))).get? l=some { cls:=.type "tuple",dict:=z,data:=.seq items nl,slots:=j }:=ag _ N;have hsls:=PySem.F.sub_tuple_set;have hslf:=PySem.F.sub_tuple_frozenset;have hne:(cO "tuple" == cO "dict")=false:=by decide
    have Y:(s.heap.push (setOb #[] 0 (.fresh 0 0 (ledOf w)))).IsTuple l items:=⟨_,L,rfl,nl,rfl⟩;unfold cg.«set.__init__» noKeywords gH;generalize hPI:pyIter=PI;unfold setOb at *
    wp_walk
    subst hPI;refine fP Y ?_;refine aa (wpAny_runValue ?_);have U:l < s.heap.objs.size:=az N;have hh3:A.in1.in1.in1.handled=none:=by simp[hh]
    have hu3:A.in1.in1.in1.units < cx:=by show A.units + 1 + 1 + 1 < cx;lia
    have O:l≠(s.heap.push { cls:=.type "set",dict:=none,data:=.set #[] 0 (.fresh 0 0 (ledOf w)) }).objs.size:=by
     rw[cE];exact Nat.ne_of_lt (Nat.lt_succ_of_lt U)
    have hSI:s.heap.objs.size≠(s.heap.push { cls:=.type "set",dict:=none,data:=.set #[] 0 (.fresh 0 0 (ledOf w)) }).objs.size:=by
     rw[cE];exact Nat.ne_of_lt (Nat.lt_succ_self _)
    have kp:TupKeep s.heap ((s.heap.push { cls:=.type "set",dict:=none,data:=.set #[] 0 (.fresh 0 0 (ledOf w)) }).push { cls:=.type "tuple_iterator",data:=.fields #[.ref l,.int 0 0] }):=λb o e _=>ag _ (ag _ e)
    have Z:((s.heap.push { cls:=.type "set",dict:=none,data:=.set #[] 0 (.fresh 0 0 (ledOf w)) }).push { cls:=.type "tuple_iterator",data:=.fields #[.ref l,.int 0 0] }).get? s.heap.objs.size
       = some (setOb #[] 0 (.fresh 0 0 (ledOf w))):=ag _ hS
    refine cXn D hh3 hu3 O hSI (cf (Nat.ne_of_lt U)) hb (items.size - 0) 0 _ (by lia) (Nat.zero_le _) ⟨_,ax _ rfl,rfl,rfl⟩ (Y.push _) (L2.Paired.mapP hi λ_ _ q=>D.keepIs q kp)
     ⟨[],⟨⟨#[],0,.fresh 0 0 (ledOf w),D.fresh Z,rfl,.nil⟩,dG,λk=>by simp⟩⟩ ?hR
    case hR =>
     intro h' tk' ms hM B J;show aD _ _ _ _ _ _;refine ae ?_;show aD _ _ (ret bX) _ _ _;refine ae ⟨rfl,h',tk',ms,rfl,hM,kp.trans B,λb o hb e=>?_⟩;exact J b o (Nat.ne_of_lt hb) (by rw[cE];exact Nat.ne_of_lt (Nat.lt_succ_of_lt hb)) (ag _ (ag _ e))
   ·cases r2 with
    | error e=>exact G
    | ok fl2 =>
     cases fl2 with
     | ret r =>
      obtain⟨rfl,h',tk,ms,rfl,hM,B,J⟩:=G
      repeat (any_goals (first | assumption | wp_step))
      exact h _ _ _ hM B J
     | _=>exact G.elim
  | _=>exact hr.elim
end
end ST
set_option maxHeartbeats 1000000
namespace L2
open PySem PySem.Spec PyProof.Rows
variable {α β:Type}
theorem cXo {H:Hp} {xs:List V} {us:List ad} {bs:List Bool} (p:bb (dB H) xs bs) (r:Vals xs us) {i:Nat} {v:ad} (h:us[i]?=some v):∃ b,bs[i]?=some b/\v=.bool b:=by
 have hl:=r.length;have hi:i < xs.length:=by
  rcases Nat.lt_or_ge i us.length with z | z
  ·omega
  ·rw[bu z] at h;cases h
 obtain⟨b,e,B⟩:=Paired.get' p (af hi);obtain⟨u,eu,q⟩:=r.get (af hi);rw[h] at eu;cases eu;have j:xs[i]=V.bl b:=B;rw[j] at q;exact⟨b,e,q⟩
theorem cQf {h h':a9} {o:Obj} (hk:∀ b x,b∉[h.objs.size]->(h.push o).get? b=some x->h'.get? b=some x):∀ b x,h.get? b=some x->h'.get? b=some x:=λb x e =>
 hk b x (λz=>by have:=aE.mp z;subst this;exact Nat.lt_irrefl _ (az e)) (ag _ e)
theorem cZi (bs:List Bool):∀ n,n=bs.length->((aT n).all λi=>(bs[i]?).getD true)=bs.all id:=by
 rintro n rfl;rw[eU,br,br];refine⟨λh b q=>?_,λh i hi=>?_⟩
 ·obtain⟨i,hi,rfl⟩:=bB q
  have:=h i (aP.mpr hi)
  rwa [af hi] at this
 ·have j:=aP.mp hi;rw[af j];exact h _ (cM j)
theorem cZj (bs:List Bool):∀ n,n=bs.length->((aT n).any λi=>(bs[i]?).getD false)=bs.any id:=by
 rintro n rfl;rw[eU,gx,gx];refine⟨λ⟨i,hi,h⟩=>?_,λ⟨b,q,h⟩=>?_⟩
 ·have j:=aP.mp hi;rw[af j] at h;exact⟨_,cM j,h⟩
 ·obtain⟨i,hi,rfl⟩:=bB q;exact⟨i,aP.mpr hi,by rw[af hi];exact h⟩
section
variable {X:Cx}
theorem cXp (hc:X.calm=true):CallR X (.builtin "all") (λxs H Q=>∃ x bs,xs=[x]/\dL X.K dB H x bs/\Q (.bl (bs.all id)) H):=by
 intro pins s σ H xs us Q I r h;obtain⟨x,bs,rfl,⟨a,ys,rfl,D,p⟩,q⟩:=h;obtain⟨u,rfl,rx⟩:=aX9 r;cases rx;obtain⟨its,j,pl,_⟩:=I.list D;obtain⟨o,G,_⟩:=id pl.isList;refine PySem.call_all_walk (d9 pl.isList ⟨_,_,_,_,_,_,λi=>(bs[i]?).getD true,rfl,PySem.Walks.list (A:=X.A.in1) (by have:=I.ok.hd hc;simp[this]) _ a (Nat.ne_of_lt (az G)) its.toArray,⟨⟨_,ax _ rfl,rfl,rfl⟩,pl.isList.push _⟩,λi v s' N O L z=>?_,λh' B J=>?_⟩)
 ·obtain⟨b,e,rfl⟩:=cXo p j (show its[i]?=some v by simpa using L)
  simp only[e,Option.getD_some] at z;exact eX z
 ·rw[cZi bs _ (by rw[am,<- j.length,p.length])]
  exact⟨.bl _,H,I.kept (t':=B) (cQf J),rfl,q⟩
theorem cXq (hc:X.calm=true):CallR X (.builtin "any") (λxs H Q=>∃ x bs,xs=[x]/\dL X.K dB H x bs/\Q (.bl (bs.any id)) H):=by
 intro pins s σ H xs us Q I r h;obtain⟨x,bs,rfl,⟨a,ys,rfl,D,p⟩,q⟩:=h;obtain⟨u,rfl,rx⟩:=aX9 r;cases rx;obtain⟨its,j,pl,_⟩:=I.list D;obtain⟨o,G,_⟩:=id pl.isList;refine PySem.call_any_walk (d9 pl.isList ⟨_,_,_,_,_,_,λi=>(bs[i]?).getD false,rfl,PySem.Walks.list (A:=X.A.in1) (by have:=I.ok.hd hc;simp[this]) _ a (Nat.ne_of_lt (az G)) its.toArray,⟨⟨_,ax _ rfl,rfl,rfl⟩,pl.isList.push _⟩,λi v s' N O L z=>?_,λh' B J=>?_⟩)
 ·obtain⟨b,e,rfl⟩:=cXo p j (show its[i]?=some v by simpa using L)
  simp only[e,Option.getD_some] at z;exact eX z
 ·rw[cZj bs _ (by rw[am,<- j.length,p.length])]
  exact⟨.bl _,H,I.kept (t':=B) (cQf J),rfl,q⟩
def SzOk (ds:List α) (n:Nat):Prop:=n<=ds.length/\(n=ds.length↔ds.Nodup)
theorem aJ5 [DecidableEq α]:∀ (ds ms:List α),ms.Nodup->ms ⊆ ds->ds.length<=ms.length->ds.Nodup
 | [],_,_,_,_=>dG
 | x::xs,ms,nd,sub,le=>by
  have q:x∉xs:=λq=>by
   have:ms ⊆ xs:=λk B=>by
    rcases aB.mp (sub B) with rfl | z
    ·exact q
    ·exact z
   have:=nd.length_le_of_subset this
   simp only[aV] at le;omega
  refine bt.mpr ⟨q,aJ5 xs (ms.erase x) (nd.erase x) (λk B=>?_) ?_⟩
  ·have j:=(g8.mem_erase_iff nd).mp B;exact(aB.mp (sub j.2)).resolve_left j.1
  ·simp only[aV] at le
   have:=List.length_erase (a:=x) (l:=ms)
   split at this <;> omega
theorem cXr [DecidableEq α] {ds ms:List α} (nd:ms.Nodup) (h:∀ k,k∈ms↔k∈ds):SzOk ds ms.length:=by
 have sub:ms ⊆ ds:=λk q=>(h k).mp q;have le:ms.length<=ds.length:=nd.length_le_of_subset sub;refine⟨le,λe=>?_,λj=>Nat.le_antisymm le (j.length_le_of_subset λk q=>(h k).mpr q)⟩;exact aJ5 ds ms nd sub (by omega)
theorem fZz {P:aC} {w:aO} {h:a9} {H:Hp} {K:Fg} {b:Addr} {xs:List V} {its:List ad} {k:List Str} (p:bb (dS H) xs k) (r:Vals xs its) (t:IsTup h b its.toArray):ST.TK P w h k (.ref b):=by
 obtain⟨o,q,z,n,hd⟩:=t;refine⟨b,rfl,o,its.toArray,n,q,z,hd,?_⟩;show ItemsAre (dE P w) k its;have go:∀ {xs:List V} {its:List ad} {k:List Str},bb (dS H) xs k->Vals xs its->ItemsAre (dE P w) k its:=by
  intro xs its k p r
  induction p generalizing its with
  | nil=>cases r;first | exact trivial | exact .nil
  | cons e _ j =>
   cases r with
   | cons r t =>
    cases e;obtain⟨B,rfl⟩:=r
    first
     | exact⟨by simp[dE,fz],j t⟩
     | exact .cons (by simp[dE,fz]) (j t)
 exact go p r
theorem dXg {P:aC} {w:aO} {H:Hp} {h:a9}:∀ {xs:List V} {us:List ad} {ds:List Str},bb (dS H) xs ds->Vals xs us->bb (λv k=>(ST.strKd P w).is h k v) us ds
 | _,_,_,.nil,.nil=>.nil
 | _,_,_,.cons p q,.cons r t=>by
  refine .cons ?_ (dXg q t);cases p;obtain⟨j,rfl⟩:=r;unfold ST.strKd;simp[dE,fz]
end
end L2
set_option maxHeartbeats 4000000
namespace L2
open PySem PySem.Spec PyProof.Rows
section
variable {prog:aC} {w:aO} {A:aY} {E:ad->ai->Prop} {s:ai}
theorem dJv {it t:Addr} {i:Nat} {items:Array ad} {x:ad} {Q:ad->ai->Prop} (hit:s.heap.IsTupleIter it t i) (ht:s.heap.IsTuple t items) (hx:items[i]?=some x)
  (hQ:∀ h',h'.IsTupleIter it t (i + 1)->dA it s.heap h'->Q x { s with heap:=h' }):aD (aF prog w) A (ig (.ref it)) Q E s:=by
 obtain⟨o,j,B,hd⟩:=id hit;obtain⟨ol,q,_,nl,z⟩:=ht;have ne:¬ ((gq t == bX)=true):=b8;refine aa (cX (name:=a7 "__next__") hit.typeIs F.slot_tuple_iterator_next (cK F.slot_tuple_iterator_next hit.typeIs F.entry_tuple_iterator_next ?_ (F.args_tuple_iterator_next_1 _)));refine aa (m:=field (.ref it) 0) (fc j hd (x:=.ref t) rfl ?_);refine(if_neg ne).symm ▸ (aa (m:=field (.ref it) 1) (fc j hd (x:=.int i 0) rfl ?_));refine aa (m:=seqItems? (.ref t)) (eH q z ?_);simp only[bR,hx];refine aa (wpAny_setField j hd (by simp) (ae ⟨x,rfl,ae (hQ _ ⟨_,ca _ j (Obj.isFreed_of_fields (Obj.data_mapFields hd _)),(Obj.cls_mapFields ..).trans B,?_⟩ (bW ..))⟩))
 rw[Obj.data_mapFields hd];simp[fw]
theorem dXh {it t:Addr} {i:Nat} {items:Array ad} {Q:ad->ai->Prop} (hh:A.handled=none) (hit:s.heap.IsTupleIter it t i) (ht:s.heap.IsTuple t items) (hx:items[i]?=none)
  (hE:∀ h' e,a9.ExtBut it s.heap h'->(∃ o,h'.get? e=some o/\o.cls=.type "StopIteration")->E (.ref e) { s with heap:=h' }):aD (aF prog w) A (ig (.ref it)) Q E s:=by
 obtain⟨o,q,B,hd⟩:=id hit;obtain⟨ol,j,_,nl,z⟩:=ht;have ne:¬ ((gq t == bX)=true):=b8;refine aa (cX (name:=a7 "__next__") hit.typeIs F.slot_tuple_iterator_next (cK F.slot_tuple_iterator_next hit.typeIs F.entry_tuple_iterator_next ?_ (F.args_tuple_iterator_next_1 _)));refine aa (m:=field (.ref it) 0) (fc q hd (x:=.ref t) rfl ?_);refine(if_neg ne).symm ▸ (aa (m:=field (.ref it) 1) (fc q hd (x:=.int i 0) rfl ?_));refine aa (m:=seqItems? (.ref t)) (eH j z ?_);simp only[bR,hx];refine aa (c7 (aa (wpAny_setField q hd (by simp) (aa (m:=newExc (.type "StopIteration") []) ?_))))
 simp only[newExc,newTuple];refine aa (bA (aa (m:=hU _ _) (wpAny_of_eq (a:=bX) (by first | rfl | (simp only[hU];rfl)) (bA ?_ (by size_fits)))) (by size_fits))
 simp only[raiseNew];refine aa (wpAny_handled ?_)
 first | rw[show A.in1.handled=none from hh] | rw[hh]
 exact aa (ae (wpAny_throw (hE _ _ (((bW ..).extBut.push _).push _) ⟨_,ax _ rfl,rfl⟩)))
theorem cXs (hh:A.handled=none) (it l:Addr) (hne:l≠it) (items:Array ad):Draws prog w A it [it,l] items.size (λi v=>items[i]?=some v) (λi h=>h.IsTupleIter it l i/\h.IsTuple l items) where
 live:=λ_ _ st=>let ⟨o,q,_⟩:=st.1;⟨o,q⟩
 frame:=λ_ _ _ st B=>⟨let ⟨o,q,r⟩:=st.1;⟨o,B it (by simp) o q,r⟩,let ⟨o,q,r⟩:=st.2;⟨o,B l (by simp) o q,r⟩⟩
 item:=λi s Q E hi st D=>dJv st.1 st.2 (x:=items[i]) (by simp[hi]) λh' z j=>D _ h' s.toks (by simp[hi]) ⟨z,st.2.extBut j.extBut hne⟩ j
 done:=λs Q E st G=>dXh hh st.1 st.2 (by simp) G
theorem eJ3 (l:Addr) (items:Array ad) (n:Nat) (dct:Option Addr) (sl:Array (Option ad)) :
  Meets (cg.«enumerate.__new__» ⟨[.type "enumerate",.ref l],[]⟩) (λ_ R s=>s.heap.get? l=some { cls:=.type "tuple",dict:=dct,data:=.seq items n,slots:=sl } /\
   R (.ok (.ret (.ref (s.heap.push { cls:=.type "tuple_iterator",data:=.fields #[.ref l,.int 0 0] }).objs.size)))
    { s with heap:=(s.heap.push { cls:=.type "tuple_iterator",data:=.fields #[.ref l,.int 0 0] }).push { cls:=.type "enumerate",data:=.fields #[.none,.bool false,.ref s.heap.objs.size,fw 0,.none,.none] } }) :=
 .of_wp λprog w A R s h=>by
  obtain⟨B,g,d,z,os⟩:=s;obtain⟨hl,h⟩:=h;have j:=sub_enumerate;have q:a9.IsTuple (ai.heap ⟨B,g,d,z,os⟩) l items:=⟨_,hl,rfl,n,rfl⟩
  wp_walk using fL hl
  refine wpAny_stack_any λst=>ae ?_
  split
  ·rename_i c _ _ _ _ _;cases (c == cO "enumerate") <;>
   ·wp_walk using fL hl,fP q
    exact⟨_,rfl,h⟩
  ·wp_walk using fL hl,fP q
   exact⟨_,rfl,h⟩
theorem dJw {l:Addr} {items:Array ad} {Q:ad->ai->Prop} (hT:s.heap.IsTuple l items)
  (h:∀ h',IsEnum h' (s.heap.objs.size + 1) s.heap.objs.size 0 .none->h'.IsTupleIter s.heap.objs.size l 0->(∀ b o,s.heap.get? b=some o->h'.get? b=some o)->Q (.ref (s.heap.objs.size + 1)) { s with heap:=h' }) :
  aD (aF prog w) A (call (.type "enumerate") [.ref l]) Q E s:=by
 obtain⟨⟨c,z,dt,sl⟩,hl,q,n,hd⟩:=hT;replace q:c=.type "tuple":=q;replace hd:dt=.seq items n:=hd;subst q hd;refine callType_new F.called_enumerate (by decide) (F.typeCall_enumerate_1 _) (F.newCall_enumerate_1 _) (λobj=>F.args_object_init_2 obj _) F.entry_enumerate_new (eJ3 l items n z sl) ⟨hl,?_⟩
 generalize j:({ cls:=.type "tuple_iterator",data:=.fields #[.ref l,.int 0 0] }:Obj)=o1;have B:(s.heap.push o1).objs.size=s.heap.objs.size + 1:=cE ..;have he:=ax (s.heap.push o1) (o:={ cls:=.type "enumerate",data:=.fields #[.none,.bool false,.ref s.heap.objs.size,fw 0,.none,.none] }) rfl;have hi:(s.heap.push o1).get? s.heap.objs.size=some o1:=ax _ (by rw[<- j];rfl)
 show _/\_;rw[B] at he ⊢;exact⟨⟨_,he,rfl⟩,h _ he ⟨o1,ag _ hi,by rw[<- j],by rw[<- j];rfl⟩ λb o x=>ag _ (ag _ x)⟩
end
def Ite (K:Fg) (a:Addr):It:=⟨λi H=>∃ xs x,SqT K H a xs/\xs[i]?=some x,λi H x H'=>∃ p y,H p=none/\x=.ref p/\H'=upd H p (.tup [.int i,y])/\∀ xs,SqT K H a xs->xs[i]?=some y,λi H=>∃ xs,SqT K H a xs/\xs.length<=i⟩
theorem dJx {P:aC} {w:aO} {K:Fg} {elts:List Expr} {x1:Nat} {pos:Pos} (a it e:Addr) (hei:e≠it) (hae:a≠e) (hai:a≠it):Turn P w K (.Tuple elts x1 pos) (Ite K a) [e,it] e (λi h=>(∃ old,IsEnum h e it i old)/\h.IsTupleIter it a i) where
 mem:=by simp
 obj:=λi h st b B=>by
  obtain⟨⟨old,he⟩,o,N,hc,hd⟩:=st;rcases aB.mp B with rfl | B
  ·exact⟨_,he,λv z=>by cases z⟩
  ·have:=aE.mp B
   subst this;exact⟨o,N,λv z=>by rw[hd] at z;cases z⟩
 keep:=λi h h' st k=>by
  obtain⟨⟨old,he⟩,o,N,r⟩:=st;exact⟨⟨old,k e (by simp) _ he⟩,o,k it (by simp) _ N,r⟩
 item:=by
  intro X hP hw hK hc i pins s σ H E I hf st hg;subst hP hw hK;obtain⟨xs,x,hq,hx⟩:=hg;obtain⟨its,rv,p,hz⟩:=I.tuple hq;obtain⟨u,hu,ru⟩:=rv.get hx;obtain⟨⟨old,he⟩,G⟩:=st;have hi:i < its.toArray.size:=by
   rcases Nat.lt_or_ge i its.toArray.size with z | z
   ·exact z
   ·rw[am] at z;rw[bu z] at hu;cases hu
  have hh:X.A.in1.handled=none:=by have:=I.ok.hd hc;simp[this]
  have hT:s.heap.IsTuple a its.toArray:=p;refine wpAny_pyNext_enum_itemD (cXs hh it a hai its.toArray) he ⟨G,hT⟩ hi hei (by simp;exact⟨hei,λz=>hae z.symm⟩) λy h' R hy N hs' hT' hsz hk=>⟨_,rfl,?_⟩
  have hy':y=u:=by
   have:its[i]?=some y:=by simpa using hy
   rw[hu] at this;exact(aR this).symm
  subst hy';refine wpAny_letOwnedTupleGo_enum N λh2 he2 L=>?_;have fe:=hf e (by simp)
  have fi:=hf it (by simp)
  have U:∀ b o,b≠e->b≠it->s.heap.get? b=some o->h2.get? b=some o:=λb o n1 n2 g=>(L.2 b n1).trans (hk b o n1 n2 g);have Y:e < s.heap.objs.size:=az he;have j:H s.heap.objs.size=none:=I.hok.fresh (Nat.le_refl _);have nT:∀ b o,s.heap.get? b=some o->b≠s.heap.objs.size:=λb o g=>Nat.ne_of_lt (az g);have nH:∀ b u,H b=some u->b≠e/\b≠it:=λb u g=>⟨λz=>(by rw[z,fe.1] at g;cases g),λz=>(by rw[z,fi.1] at g;cases g)⟩
  have J:h2.get? s.heap.objs.size=some { cls:=.type "tuple",data:=.seq #[.int i R,y] }:=(L.2 _ (Nat.ne_of_gt Y)).trans hT';have hok:HOk X.prog X.w (upd H s.heap.objs.size (.tup [.int i,x])) h2:=λb ob g=>by
   by_cases B:b=s.heap.objs.size
   ·subst B;rw[aQg] at g;cases g;refine⟨by rw[be];show 2<=_;decide,[.int i R,y],.cons ⟨R,rfl⟩ (.cons ru .nil),⟨_,J,rfl,0,rfl⟩,λo e=>by rw[J] at e;cases e;rfl⟩
   ·rw[upd_ne B] at g;refine(I.hok b ob g).stay (λc w' D q=>?_) (λc q=>?_) λc ys q=>?_
    ·rcases D with rfl | D
     ·exact U _ _ (nH _ _ g).1 (nH _ _ g).2 q
     ·exact U _ _ (nH _ _ D).1 (nH _ _ D).2 q
    ·rw[upd_ne (aQd q j)];exact q
    ·rw[upd_ne (aQd q j)];exact q
  have un:Un (frs X.stack) [e,it] H (upd H s.heap.objs.size (.tup [.int i,x])) s.heap h2:=by
   have O:∀ {b:Addr},b∉[e,it]->b≠e/\b≠it:=λB=>⟨λz=>B (by simp[z]),λz=>B (by simp[z])⟩
   exact⟨λb o g _ _ B=>U b o (O B).1 (O B).2 g,λb o g _ _ B=>⟨o.slots,U b o (O B).1 (O B).2 g⟩,λb o g n _=>by rw[upd_ne (nT b o g)];exact n,λb o g B=>⟨o,U b o (O B).1 (O B).2 g⟩,
    λb ys g=>by rw[upd_ne (aQd g j)];exact g,λb o v g=>by rw[upd_ne (aQd g j)];exact g,λb ps g=>⟨#[],by rw[upd_ne (aQd g j),g];simp⟩⟩
  have I2:Inv X pins σ (upd H s.heap.objs.size (.tup [.int i,x])) { s with heap:=h2,toks:=R + 1 }:=I.call' (s':={ s with heap:=h2,toks:=R + 1 }) rfl un hok I.bare λb B=>by
   rcases aB.mp B with rfl | B
   ·exact⟨fe.2.2.2.1,fe.2.1,fe.2.2.2.2.1,fe.2.2.2.2.2⟩
   ·have:=aE.mp B
    subst this;exact⟨fi.2.2.2.1,fi.2.1,fi.2.2.2.2.1,fi.2.2.2.2.2⟩
  refine⟨.ref s.heap.objs.size,_,I2,rfl,⟨_,x,j,rfl,rfl,λys hy=>by rw[I.tuple_inj hy hq];exact hx⟩,⟨⟨_,by simpa using he2⟩,?_⟩,λb B=>?_⟩
  ·obtain⟨o,g,r⟩:=hs'.1;exact⟨o,(L.2 it (cf hei)).trans g,r⟩
  ·have hb':b < s.heap.objs.size:=by
    rcases aB.mp B with rfl | B
    ·exact Y
    ·have:=aE.mp B
     subst this;obtain⟨o,g,_⟩:=G;exact az g
   rw[upd_ne (Nat.ne_of_lt hb')];exact(hf b B).1
 done:=by
  intro X hP hw hK hc i pins s σ H E I hf st hg;subst hP hw hK;obtain⟨xs,hq,hx⟩:=hg;obtain⟨its,rv,p,hz⟩:=I.tuple hq;obtain⟨⟨old,he⟩,G⟩:=st;have hl:=rv.length;have hh:X.A.in1.handled=none:=by have:=I.ok.hd hc;simp[this]
  have hT:s.heap.IsTuple a its.toArray:=p;obtain⟨f0,f1,f2,f3,f4,f5⟩:=hf it (by simp)
  have Z:s.TypeIs (.ref e) "enumerate":=⟨_,he,rfl⟩;unfold eV;refine aa (wpAny_attempt (cX (name:=a7 "__next__") Z F.slot_enumerate_next (cK F.slot_enumerate_next Z F.entry_enumerate_next ?_ (F.args_enumerate_next_1 _))));refine aa (m:=field (.ref e) 2) (fc he rfl (x:=.ref it) rfl (aa (dXh hh G hT (by simp;lia) λh' x he' hx'=>?_)))
  obtain⟨o,N,D⟩:=hx';refine aa (iR (T := "StopIteration") (b:=true) ⟨o,N,D⟩ isSubtype_stop ?_);exact ae ⟨rfl,I.turned (t':=s.toks) (λb o B g=>he' b o B g) f0 f1 f3 f4 f5⟩
 self:=λA i s Q E st h=>by
  obtain⟨⟨old,he⟩,_⟩:=st;exact wpAny_pyIter_enum he h
section
variable {X:Cx}
def iEnT (K:Fg) (ta:TA):TI:=fun σ H R=>ta σ H λvs H1=>∃ a,vs=[.ref a]/\(∃ xs,SqT K H1 a xs)/\R (Ite K a) H1
theorem fX0 {e:Expr} {ta:TA} {p pos:Pos} {elts:List Expr} {x1:Nat} {tpos:Pos} (hg:Gl X "enumerate") (hm:X.mg "enumerate" = none) (ha:PA X [e] ta) (hs:ay [e] X.env=[(false,eval e X.env)]:=by rfl) :
  PI X (.Tuple elts x1 tpos) (.Call (.Name "enumerate" p) [e] [] pos) (iEnT X.K ta):=by
 intro pins s σ H R I h;refine Call_ (ld_blt I hg hm PyProof.Rows.boot_enumerate (dO (thn (ha pos pins s σ H _ I h) λus s1 ⟨N,H1,j,D,G⟩=>?_) hs rfl));obtain⟨a,rfl,⟨xs,J⟩,q⟩:=G;obtain⟨u,rfl,rx⟩:=aX9 D;cases rx;obtain⟨its,O,pl,U⟩:=j.tuple J;have z:a < s1.heap.objs.size:=by obtain⟨o,e,_⟩:=id pl;exact az e
 refine dJw (show s1.heap.IsTuple a its.toArray from pl) λh' he hi L=>wpAny_pyIter_enum he ?_
 refine⟨s1.heap.objs.size + 1,[s1.heap.objs.size + 1,s1.heap.objs.size],_,_,H1,rfl,j.kept (t':=s1.toks) L,dJx a s1.heap.objs.size (s1.heap.objs.size + 1) (Nat.succ_ne_self _) (Nat.ne_of_lt (Nat.lt_succ_of_lt z)) (Nat.ne_of_lt z),⟨⟨_,he⟩,hi⟩,λb B=>?_,q⟩;rcases aB.mp B with rfl | B
 ·exact j.fpOk (Nat.le_succ _) (j.hok.fresh (Nat.le_succ _))
 ·have:=aE.mp B
  subst this;exact j.fpOk (Nat.le_refl _) (j.hok.fresh (Nat.le_refl _))
end
end L2
namespace HT
open PySem PyProof.Rows
def ltS (a b:Str):Bool:=decide (a.cps.toList < b.cps.toList)
def lexS:List Str->List Str->Bool
 | [],[]=>false
 | [],_::_=>true
 | _::_,[]=>false
 | x::xs,y::ys=>if x=y then lexS xs ys else ltS x y
theorem lexS_cons (x y:Str) (xs ys:List Str):lexS (x::xs) (y::ys)=if x=y then lexS xs ys else ltS x y:=rfl
theorem bX7:lexS [] []=false:=rfl
theorem lexS_nil_cons (y:Str) (ys:List Str):lexS [] (y::ys)=true:=rfl
theorem lexS_cons_nil (x:Str) (xs:List Str):lexS (x::xs) []=false:=rfl
abbrev SAre:List ad->List Str->Prop:=bb λv x=>∃ t,v=.str x t
theorem SAre.len {l:List ad} {m:List Str} (h:SAre l m):l.length=m.length:=b6 h
theorem dJy (A:aY) (s:ai) (a:Str) (t:Tok) (c:Str) (u:Tok):∃ e,cW A s (.str a t) (.str c u) e/\(e=true↔a=c) :=
 ⟨(a == c),hW a t c u,by simp⟩
theorem dJz (A:aY) (s:ai) (a:Str) (t:Tok) (c:Str) (u:Tok) (prog:aC) (w:aO) (E:ad->ai->Prop) (Q:ad->ai->Prop) (h:Q (.bool (ltS a c)) s) :
  aD (aF prog w) A (richCompare .Lt (.str a t) (.str c u)) Q E s :=
 (jv h:aD (aF prog w) A (dl .Lt (.str a t) (.str c u)) Q E s)
section
open PySem.SeqAt
open PySem.AutoSeq1 (wpAny_loadPart')
open PySem.MeetsSeq PySem.MeetsSeq2 PySem.MeetsSeq3
theorem tuple_lt_strs (l b:Addr) (items items2:Array ad) (n n2:Nat) (dd dd2:Option Addr) (sl sl2:Array (Option ad)) (ns ms:List Str) (hi:SAre items.toList ns) (hj:SAre items2.toList ms) :
  Meets (cg.«tuple.__lt__» ⟨[.ref l,.ref b],[]⟩)
   (λ_ R s=>s.heap.get? l=some { cls:=.type "tuple",dict:=dd,data:=.seq items n,slots:=sl }/\s.heap.get? b=some { cls:=.type "tuple",dict:=dd2,data:=.seq items2 n2,slots:=sl2 } /\
    R (.ok (.ret (.bool (lexS ns ms)))) s) :=
 .of_wp λprog w A R s h=>by
  obtain⟨Y,g,d,U,os⟩:=s;obtain⟨hl,hb,h⟩:=h;have f2:=iz;have z1:items.size=ns.length:=by rw[<- hi.len];simp
  have z2:items2.size=ms.length:=by rw[<- hj.len];simp
  wp_walk using fL hl,fL hb,iN _ (λrest b s'=>b.1=none/\s'=⟨Y,g,d,U,os⟩/\∃ (O ws:List ad) (j z:List Str),rest=O.zip ws /\
   SAre O j/\SAre ws z/\j.length + items2.size=z.length + items.size/\R (.ok (.ret (.bool (lexS j z)))) ⟨Y,g,d,U,os⟩) _
  case turn =>
   rintro⟨y,x⟩ rest b s' ⟨J,rfl,O,ws,j,z,hz,hvi,hwi,hlen,D⟩;cases hvi with
   | nil=>rw[List.zip_nil_left] at hz;cases hz
   | @cons va a _ _ ha N =>
    obtain⟨t,rfl⟩:=ha;cases hwi with
    | nil=>rw[hX] at hz;cases hz
    | @cons vc c _ _ hc L =>
     obtain⟨u,rfl⟩:=hc;rw[eR] at hz;injection hz with Z G
     injection Z with hy hx
     subst hy hx;rw[lexS_cons] at D;simp only[aV] at hlen;obtain⟨e,he,B⟩:=dJy A.in1 ⟨Y,g,d,U,os⟩ a t c u;refine aa (he prog w _ _ ?_);cases e with
     | true =>
      rw[if_pos (B.mp rfl)] at D
      wp_walk
      exact⟨rfl,rfl,_,_,_,_,G,N,L,by lia,D⟩
     | false =>
      rw[if_neg (λq=>absurd (B.mpr q) b8)] at D;have hri:=dJz A.in1 ⟨Y,g,d,U,os⟩ a t c u prog w
      wp_walk using hri
      exact⟨_,rfl,by simpa using D⟩
  case fin =>
   rintro⟨b1,b2⟩ s' ⟨J,rfl,O,ws,j,z,hz,hvi,hwi,hlen,D⟩;simp only at J;subst J;have hv:lexS j z=decide (items.size < items2.size):=by
    cases hvi with
    | nil =>
     cases hwi with
     | nil =>
      simp only[dN] at hlen;rw[bX7];exact(decide_eq_false (by lia)).symm
     | cons hc hw =>
      simp only[dN,aV] at hlen;rw[lexS_nil_cons];exact(decide_eq_true (by lia)).symm
    | cons ha hv =>
     cases hwi with
     | nil =>
      simp only[dN,aV] at hlen;rw[lexS_cons_nil];exact(decide_eq_false (by lia)).symm
     | cons hc hw =>
      rw[eR] at hz;cases hz
   rw[hv] at D
   wp_walk
   exact⟨_,rfl,by simpa [cg.Tuple.tupleCompareSizes] using D⟩
  case h =>
   exact⟨rfl,rfl,items.toList,items2.toList,ns,ms,rfl,hi,hj,by lia,h⟩
end
section
variable {prog:aC} {w:aO} {A:aY} {E:ad->ai->Prop} {s:ai}
theorem lt_tupStrs {l b:Addr} {items items2:Array ad} {ns ms:List Str} {Q:ad->ai->Prop} (hl:IsTup s.heap l items) (hb:IsTup s.heap b items2) (hi:SAre items.toList ns) (hj:SAre items2.toList ms)
  (hu:A.units < cx) (h:Q (.bool (lexS ns ms)) s):aD (aF prog w) A (dl .Lt (.ref l) (.ref b)) Q E s:=by
 obtain⟨⟨cls,dd,data,sl⟩,D,G,n,hd⟩:=id hl;obtain⟨⟨J,B,data2,z⟩,j,q,L,hd2⟩:=id hb;simp only at G hd q hd2;subst G hd q hd2;exact richCompare_meets_room (op:=.Lt) ⟨_,D,rfl⟩ ⟨_,j,rfl⟩ gj jb (iS _ _) (tuple_lt_strs l b items items2 n L dd B sl z ns ms hi hj)
  ⟨D,j,show ad.bool (lexS ns ms)≠ad.notImplemented/\Q (.bool (lexS ns ms)) s from⟨(λx=>nomatch x),h⟩⟩ hu
end
end HT
namespace L2
open PySem PySem.Spec PyProof.Rows
theorem aJx {H:Hp}:∀ {xs:List V} {us:List ad} {ds:List Str},bb (dS H) xs ds->Vals xs us->HT.SAre us ds
 | _,_,_,.nil,.nil=>.nil
 | _,_,_,.cons p q,.cons r t=>by
  cases p;exact .cons r (aJx q t)
def rLtS (K:Fg):R2:=λx y H Q=>∃ d e,dT K dS H x d/\dT K dS H y e/\Q (.bl (HT.lexS d e)) H
theorem eJ4 {X:Cx} (hu:X.A.units < cx):OpR X (dl .Lt) (rLtS X.K):=by
 intro pins s σ H x y v u Q I rx ry h;obtain⟨d,e,⟨a,xs,rfl,N,G⟩,⟨b,ys,rfl,L,D⟩,q⟩:=h;cases rx;cases ry;obtain⟨its,B,J,_⟩:=I.tuple N;obtain⟨j,z,p2,_⟩:=I.tuple L;exact HT.lt_tupStrs J p2 (aJx G B) (aJx D z) hu ⟨.bl (HT.lexS d e),H,I,rfl,q⟩
end L2
set_option maxHeartbeats 1000000
namespace L2
open PySem PySem.Spec PyProof.Rows
variable {α β γ:Type}
theorem nd_ (l:List Str) (h:l.Nodup:=by decide +kernel):l.Nodup:=h
theorem lt64 {k n:Nat} {A:aY} (r:Room k A) (h:n<=64:=by decide):A.units + n < cx:=by have:=r.units;omega
section
variable {X:Cx} {K:Fg} {tg:Expr} {a:Expr} {ta:TE}
theorem eQ0 (hK:X.K=K:=by rfl):SlR X (rSlT K):=hK ▸ eXp
theorem dZ3 (hK:X.K=K:=by rfl):SlR X (rSlL K):=hK ▸ dJi
theorem dZ4 (hK:X.K=K:=by rfl):OpR X (eF .Add) (dJg K):=hK ▸ dJh
theorem bJd (hK:X.K=K:=by rfl):CallR X (.type "tuple") (λxs H Q=>∃ p ys,xs=[.ref p]/\((SqL K H p ys/\∀ l,H l=none->Q (.ref l) (upd H l (.tup ys)))\/(SqT K H p ys/\Q (.ref p) H))):=hK ▸ bZ5
theorem cZk (hK:X.K=K:=by rfl):CallR X (.type "list") (λxs H Q=>∃ p ys,xs=[.ref p]/\(SqL K H p ys\/SqT K H p ys)/\∀ l,H l=none->Q (.ref l) (upd H l (.lst ys))):=hK ▸ call_list_of
theorem cXt (hK:X.K=K:=by rfl) (hc:X.calm=true:=by rfl):CallR X (.builtin "all") (λxs H Q=>∃ x bs,xs=[x]/\dL K dB H x bs/\Q (.bl (bs.all id)) H):=hK ▸ cXp hc
theorem cXu (hK:X.K=K:=by rfl) (hc:X.calm=true:=by rfl):CallR X (.builtin "any") (λxs H Q=>∃ x bs,xs=[x]/\dL K dB H x bs/\Q (.bl (bs.any id)) H):=hK ▸ cXq hc
theorem eQ1 (hu:X.A.units < cx) (hK:X.K=K:=by rfl):OpR X (dl .Lt) (rLtS K):=hK ▸ eJ4 hu
theorem cXv (ha:PE X a ta) (he:∀ whole,isTrue a X.env whole=(do let v <- whole;gO a.pos;fG [v] (truthy v))) (hK:X.K=K:=by rfl):PT X a (fun σ H Q=>ta σ H λx H'=>∃ k,TruV K x H' k/\Q k H'):=by subst hK;exact dQk ha he
theorem eJ5 {e:Expr} {ta:TA} {p pos:Pos} {elts:List Expr} {x1:Nat} {tpos:Pos} (hg:Gl X "enumerate") (hm:X.mg "enumerate" = none) (ha:PA X [e] ta) (hs:ay [e] X.env=[(false,eval e X.env)]:=by rfl) (hK:X.K=K:=by rfl) :
  PI X (.Tuple elts x1 tpos) (.Call (.Name "enumerate" p) [e] [] pos) (iEnT K ta):=by subst hK;exact fX0 hg hm ha hs
end
end L2
set_option maxHeartbeats 4000000
namespace KS
open PySem PySem.W PyProof.Rows
variable {lt:Nat->Nat->Bool} {n:Nat}
end KS
set_option maxHeartbeats 1000000
namespace ST
open PySem PySem.SetTable PySem.Spec PyProof.Rows
theorem bQe:entryFor table "set.__iter__" = some cg.«frozenset.__iter__»:=entryFor_alias (id' := "frozenset.__iter__") (by kernel_rfl) rfl (by decide +kernel) (by kernel_rfl)
theorem slot_setit_next:Slot "set_iterator" "__next__" "set_iterator.__next__" :=
 .of (owner := "set_iterator") (n := "__next__") (by rw[typeLookup_type,gk];kernel_rfl) (by decide +kernel) (by decide +kernel) (by decide +kernel)
  (by first | exact .inl (by decide +kernel) | exact .inr (by decide +kernel)) (by rw[isSubtype_type];kernel_rfl)
theorem aJ9:entryFor table "set_iterator.__next__" = some cg.«set_iterator.__next__»:=entryFor_of_tree (by kernel_rfl)
theorem aJy (a:ad):argsOk "set_iterator.__next__" ⟨[a],[]⟩:=by unfold argsOk;kernel_rfl
theorem dZ5:typeLookup (.type "set") "__len__" = pure (some (.builtin "set.__len__")):=by rw[typeLookup_type,gk];kernel_rfl
section
variable {prog:aC} {w:aO} {A:aY} {E:ad->ai->Prop} {s:ai}
theorem eQ2 {p:Addr} {es:Array (Int × ad)} {ep:Nat} {t:aS} {Q:Bool->ai->Prop} (ho:s.heap.get? p=some (setOb es ep t)) (h:Q false s):aD (aF prog w) A (gQ (.ref p)) Q E s:=by
 have j:s.TypeIs (.ref p) "set":=⟨_,ho,rfl⟩;unfold gQ;refine aa (gG j dZ5 ?_);dsimp only;have e1:splitId "set.__len__" = some ("set", "__len__"):=by decide +kernel
 rw[e1];dsimp only;refine aa (iR (b:=true) j (by rw[isSubtype_type];kernel_rfl) ?_)
 rw[if_neg (show ¬ ((!true)=true) by decide)]
 refine gI (λq=>?_) (λq=>absurd (by decide +kernel) q)
 refine aa (eQ j ?_);exact ae h
theorem bQv {α:Type} {l:List α} {i:Nat} (h:i < l.length):(l[i]::l.eraseIdx i).Perm l:=by
 have e:l=l.take i++l[i]::l.drop (i + 1):=by
  rw[<- bY h,bj]
 rw[List.eraseIdx_eq_take_drop_succ];refine fm.symm.trans ?_;rw[<- e]
theorem eQ3 {n:Nat} {Q:Nat->ai->Prop} (hn:n≠0) (h:∀ i,i < n->Q i { s with drawn:=s.drawn.bump .order }):aD (aF prog w) A (choose .order n) Q E s:=fun Γ p hΓ=>by
 show Sem.wp _ _ (.choose .order n .pure) _ _ _ _;rw[Sem.wp_choose];exact⟨hn,h _ (Nat.mod_lt _ (Nat.pos_of_ne_zero hn))⟩
theorem eJ6 {α:Type}:∀ (n:Nat) (xs:List α) {s:ai} {Q:List α->ai->Prop},xs.length=n->(∀ ys d,ys.Perm xs->Q ys { s with drawn:=d })->aD (aF prog w) A (drawOrder n xs) Q E s
 | 0,xs,s,Q,hl,h=>by
  have e:xs=[]:=dJ.mp hl;subst e;unfold drawOrder;exact ae (h [] s.drawn (c9 _))
 | n + 1,xs,s,Q,hl,h=>by
  cases xs with
  | nil=>cases hl
  | cons x r =>
   unfold drawOrder;refine aa ?_;have j:(x::r).length≠0:=by simp
   refine eQ3 j λi hi=>?_;have z:(x::r)[i]?=some (x::r)[i]:=af hi;rw[z];dsimp only;refine aa (eJ6 n ((x::r).eraseIdx i) (s:={ s with drawn:=s.drawn.bump .order }) (by rw[hZ hi];simp at hl ⊢;omega) λys d q=>?_)
   refine ae (h _ d ?_);refine(q.cons _).trans ?_;exact bQv hi
theorem bX8 {α:Type} (next:Nat->Nat):∀ (fuel k:Nat) (left:List α) (out:Array α),left.length=fuel->(jz next fuel k left out).toList.Perm (out.toList++left)
 | 0,k,left,out,hl=>by
  have e:left=[]:=dJ.mp hl;subst e;unfold jz;rw[ci]
 | fuel + 1,k,left,out,hl=>by
  unfold jz;have hi:next k % left.length < left.length:=Nat.mod_lt _ (by omega)
  rw[af hi];dsimp only;refine(bX8 next fuel (k + 1) _ _ (by rw[hZ hi];omega)).trans ?_
  rw[b4,aZ];exact d0 _ (bQv hi)
theorem bQf {α:Type} (next:Nat->Nat) (xs:Array α):(gU next xs).toList.Perm xs.toList:=by
 have:=bX8 next xs.size 0 xs.toList #[] (by simp)
 simpa [gU] using this
def itOb (first:ad) (i:Nat) (p:Addr) (n ep:Nat):Obj:={ cls:=.type "set_iterator",dict:=none,data:=.fields #[first,.int i 0,.ref p,.int n 0,.int ep 0],slots:=#[] }
theorem eQ4 {I:Addr} {Q:Option ad->ai->Prop} {s:ai} (hh:A.in1.handled=none) (h:∀ h',(∀ b o,s.heap.get? b=some o->h'.get? b=some o)->Q none { s with heap:=h' }) :
  aD (aF prog w) A.in1 (newExc (.type "StopIteration") [] >>= λe=>(raiseNew e:Sem Fin)) (λfin s'=>∃ r,fin=.done (.ret r)/\aD (aF prog w) A (pure (some r)) Q E s') (λe s'=>aD (aF prog w) A (do if <- isInstance e (.type "StopIteration") then pure none else throw e) Q E s') s:=by
 refine aa ?_;simp only[newExc,newTuple];refine aa (bA ?_ (by size_fits))
 refine aa (m:=hU _ _) (wpAny_of_eq (a:=bX) (by first | rfl | (simp only[hU];rfl)) ?_)
 refine bA ?_ (by size_fits)
 simp only[raiseNew];refine aa (wpAny_handled ?_);rw[hh];refine aa (ae (wpAny_throw ?_));refine aa (iR (T := "StopIteration") (b:=true) ⟨_,ax _ rfl,rfl⟩ isSubtype_stop ?_);exact ae (h _ λb o e=>ag _ (ag _ e))
theorem aXr {I p:Addr} {es:Array (Int × ad)} {ep:Nat} {t:aS} {first:ad} {i:Nat} {Q:Option ad->ai->Prop} (hp:s.heap.get? p=some (setOb es ep t)) (hf:t.fits es.size=true) (hI:s.heap.get? I=some (itOb first i p es.size ep))
  (h:aD (aF prog w) A.in1 (if let .int slot _:=first then do
    match <- setNext p slot.toNat (i:Int).toNat (ep:Int).toNat with
    | some (x,next)=>do
     js (.ref I) 0 (fw next)
     js (.ref I) 1 (fw ((i:Int) + 1))
     ret x
    | none=>do js (.ref I) 2 .none;raiseNew (<- newExc (.type "StopIteration") [])
   else do
    let some places <- seqItems? first | eM "internal:set_iterator"
    match places[(i:Int).toNat]? with
    | some (.int place _)=>do
     let x <- setNextDrawn p place.toNat (ep:Int).toNat
     js (.ref I) 1 (fw ((i:Int) + 1))
     ret x
    | some _=>eM "internal:set_iterator"
    | none=>do js (.ref I) 0 (fw 0);js (.ref I) 2 .none;raiseNew (<- newExc (.type "StopIteration") []))
   (λfin s'=>∃ r,fin=.done (.ret r)/\aD (aF prog w) A (pure (some r)) Q E s') (λe s'=>aD (aF prog w) A (do if <- isInstance e (.type "StopIteration") then pure none else throw e) Q E s') s) :
  aD (aF prog w) A (eV (.ref I)) Q E s:=by
 have j:s.TypeIs (.ref I) "set_iterator":=⟨_,hI,rfl⟩;unfold eV;refine aa (wpAny_attempt (cX (name:=a7 "__next__") j slot_setit_next
  (cK slot_setit_next j aJ9 ?_ (aJy _))))
 unfold cg.«set_iterator.__next__» slotArgs;simp only[List.isEmpty_nil,fF,aL,↓reduceIte,bind_assoc,dN,bne_self_eq_false];refine aa (ae ?_)
 try dsimp only
 refine aa (wpAny_fieldsOf hI rfl ?_);dsimp only;refine aa (wpAny_setEntries_of hp rfl hf ?_);rw[if_neg (by simp)]
 exact h
structure Gives (prog:aC) (w:aO) (A:aY) (I:Addr) (fp:List Addr) (vals:List ad) (St:Nat->a9->Prop):Prop where
 mem:I∈fp
 frame:∀ i h h',St i h->(∀ b∈fp,∀ o,h.get? b=some o->h'.get? b=some o)->St i h'
 item:∀ (i:Nat) (s:ai) (v:ad) (Q:Option ad->ai->Prop) (E:ad->ai->Prop),vals[i]?=some v->St i s.heap ->
  (∀ h',St (i + 1) h'->(∀ b o,b≠I->s.heap.get? b=some o->h'.get? b=some o)->Q (some v) { s with heap:=h' })->aD (aF prog w) A (eV (.ref I)) Q E s
 done:∀ (s:ai) (Q:Option ad->ai->Prop) (E:ad->ai->Prop),St vals.length s.heap ->
  (∀ h',(∀ b o,b≠I->s.heap.get? b=some o->h'.get? b=some o)->Q none { s with heap:=h' })->aD (aF prog w) A (eV (.ref I)) Q E s
theorem cQg {p:Addr} {es:Array (Int × ad)} {ep i:Nat} {t:aS} {Q:Option (ad × Nat)->ai->Prop} (hp:s.heap.get? p=some (setOb es ep t)) (hf:t.fits es.size=true) (hw:w.params.followText "set-order" = true)
  (h:Q (((gU (w.params.setOrder p ep) es)[i]?).map λe=>(e.2,0)) s):aD (aF prog w) A (setNext p (0:Int).toNat (i:Int).toNat (ep:Int).toNat) Q E s:=by
 unfold setNext;refine aa (db hp rfl hf ?_);dsimp only;unfold setsByText;refine aa (aa (dW (ae ?_)));have j:(aF prog w).w.params.followText "set-order" = true:=hw;rw[j,if_pos rfl,if_neg (by simp)]
 unfold setWalk;refine aa (aa (db hp rfl hf ?_));dsimp only;unfold setsByText;refine aa (aa (dW (ae ?_)));rw[j,if_pos rfl];refine aa (dW ?_);refine ae (ae ?_);rw[bR];exact h
theorem eJ7 {p I T:Addr} {es:Array (Int × ad)} {ep:Nat} {t:aS} {vals:List ad} {places:Array ad} (hh:A.in1.handled=none) (hTI:T≠I) (hpI:p≠I) (hl:places.size=vals.length)
  (hpl:∀ (j:Nat) (pl:ad),places[j]?=some pl->∃ q:Nat,pl=jt (q:Int) 0/\∃ e,es[q]?=some e/\vals[j]?=some e.2) :
  Gives prog w A I [I,p,T] vals (λi h=>h.get? p=some (setOb es ep t)/\t.fits es.size=true/\h.get? I=some (itOb (.ref T) i p es.size ep)/\∃ o c,h.get? T=some o/\o.data=.seq places c) where
 mem:=by simp
 frame:=λi h h' st k=>by
  obtain⟨h1,h2,z,o,c,D,B⟩:=st;exact⟨k p (by simp) _ h1,h2,k I (by simp) _ z,o,c,k T (by simp) _ D,B⟩
 item:=λi s v Q E O st J=>by
  obtain⟨h1,h2,z,o,c,D,B⟩:=st;refine aXr h1 h2 z ?_;dsimp only;refine aa (eH D B ?_);dsimp only;have hi:i < places.size:=by rw[hl];exact(aG.mp O).1
  obtain⟨q,e1,e,e2,R⟩:=hpl i places[i] (by simp[hi])
  have N:places[(i:Int).toNat]?=some (jt (q:Int) 0):=by rw[bR,<- e1];simp[hi]
  rw[N];dsimp only;have ev:e.2=v:=by rw[O] at R;exact(aR R).symm
  refine aa ?_;unfold setNextDrawn;refine aa (db h1 rfl h2 ?_);dsimp only;rw[if_neg (by simp),bR,e2]
  dsimp only;refine ae ?_;refine aa (cG z (by show 1 < 5;decide) λh' g1 g2=>?_)
  rw[ev];refine ae ⟨v,rfl,ae (J h' ⟨?_,h2,?_,o,c,?_,B⟩ λb o' G e=>(g2.2 b G).trans e)⟩
  ·exact(g2.2 p hpI).trans h1
  ·exact g1
  ·exact(g2.2 T hTI).trans D
 done:=λs Q E st J=>by
  obtain⟨h1,h2,z,o,c,D,B⟩:=st;refine aXr h1 h2 z ?_;dsimp only;refine aa (eH D B ?_);dsimp only;have N:places[(vals.length:Int).toNat]?=none:=by rw[bR,<- hl];simp
  rw[N];dsimp only;refine aa (cG z (by show 0 < 5;decide) λh' g1 g2=>?_)
  refine aa (cG g1 (by show 2 < 5;decide) λU g3 Y=>?_)
  exact eQ4 (I:=I) hh λL k=>J L λb o' G e=>k b o' ((Y.2 b G).trans ((g2.2 b G).trans e))
theorem eJ8 {p I:Addr} {es:Array (Int × ad)} {ep:Nat} {t:aS} {vals:List ad} (hh:A.in1.handled=none) (hpI:p≠I) (hw:w.params.followText "set-order" = true) (hv:vals=(gU (w.params.setOrder p ep) es).toList.map (·.2)) :
  Gives prog w A I [I,p] vals (λi h=>h.get? p=some (setOb es ep t)/\t.fits es.size=true/\h.get? I=some (itOb (.int 0 0) i p es.size ep)) where
 mem:=by simp
 frame:=λi h h' st k=>by
  obtain⟨h1,h2,j⟩:=st;exact⟨k p (by simp) _ h1,h2,k I (by simp) _ j⟩
 item:=λi s v Q E hv' st G=>by
  obtain⟨h1,h2,j⟩:=st;refine aXr h1 h2 j ?_;dsimp only;refine aa (cQg h1 h2 hw ?_);have L:((gU (w.params.setOrder p ep) es)[i]?).map (λe=>(e.2,0))=some (v,0):=by
   rw[hv,ba,aM] at hv';cases q:(gU (w.params.setOrder p ep) es)[i]? with
   | none=>rw[q] at hv';cases hv'
   | some e=>rw[q] at hv';cases hv';rfl
  rw[L];dsimp only;refine aa (cG j (by show 0 < 5;decide) λh' g1 g2=>?_)
  refine aa (cG g1 (by show 1 < 5;decide) λz g3 D=>?_)
  refine ae ⟨v,rfl,ae (G z ⟨?_,h2,g3⟩ λb o' B e=>(D.2 b B).trans ((g2.2 b B).trans e))⟩;exact(D.2 p hpI).trans ((g2.2 p hpI).trans h1)
 done:=λs Q E st G=>by
  obtain⟨h1,h2,j⟩:=st;refine aXr h1 h2 j ?_;dsimp only;refine aa (cQg h1 h2 hw ?_);have L:(gU (w.params.setOrder p ep) es)[vals.length]?=none:=by
   rw[hv];simp
  rw[L];dsimp only[Option.map];refine aa (cG j (by show 2 < 5;decide) λz g3 D=>?_)
  exact eQ4 (I:=I) hh λJ k=>G J λb o' B e=>k b o' ((D.2 b B).trans e)
end
end ST
set_option maxHeartbeats 4000000
namespace ST
open PySem PySem.SetTable PySem.Spec PyProof.Rows
section
variable {prog:aC} {w:aO} {A:aY} {E:ad->ai->Prop} {s:ai}
theorem bX9 {p:Addr} {es:Array (Int × ad)} {ep i sl:Nat} {t:aS} {Q:Option (ad × Nat)->ai->Prop} (hp:s.heap.get? p=some (setOb es ep t)) (hf:t.fits es.size=true) (hw:w.params.followText "set-order" = false) (hled:t.led=true) (h1:es.size<=1)
  (h:Q (match es[below t.place sl]?,t.place[below t.place sl]? with | some (_,x),some j=>some (x,j + 1) | _,_=>none) s):aD (aF prog w) A (setNext p (sl:Int).toNat (i:Int).toNat (ep:Int).toNat) Q E s:=by
 unfold setNext;refine aa (db hp rfl hf ?_);dsimp only;unfold setsByText;refine aa (aa (dW (ae ?_)));have q:(aF prog w).w.params.followText "set-order" = false:=hw;rw[q,if_neg b8];refine gI (λB=>?_) (λ_=>?_)
 ·have z:(!t.plain && decide (es.size > 1))=true:=B;simp only[bm,decide_eq_true_eq] at z;lia
 ·refine aa ?_;show aD _ _ (if (!t.led && !es.isEmpty)=true then eM "set:maker-not-led" else pure ()) _ _ _
  rw[hled,if_neg (by simp)]
  refine ae ?_;refine ae ?_;rw[bR];exact h
theorem bXa (j sl:Nat):below #[j] sl=if j < sl then 1 else 0:=by
 unfold below;simp only[am,dZ];unfold below.go;simp only[Nat.lt_irrefl,if_true,Nat.zero_lt_one]
 split
 ·rename_i h;have h':j < sl:=by simpa using h
  rw[if_pos h'];rfl
 ·rename_i h;have h':¬ j < sl:=by simpa using h
  rw[if_neg h'];rfl
theorem cQh {es:Array (Int × ad)} {t:aS} (hf:t.fits es.size=true):t.place.size=es.size:=by
 unfold jw at hf;simp only[bm,beq_iff_eq] at hf;exact hf.1
theorem eJ9 {p I:Addr} {es:Array (Int × ad)} {ep:Nat} {t:aS} {vals:List ad} (hh:A.in1.handled=none) (hpI:p≠I) (hw:w.params.followText "set-order" = false) (hled:t.led=true) (h1s:es.size<=1) (hv:vals=es.toList.map (·.2)) :
  Gives prog w A I [I,p] vals (λi h=>h.get? p=some (setOb es ep t)/\t.fits es.size=true/\∃ sl:Nat,h.get? I=some (itOb (.int sl 0) i p es.size ep)/\(i=0->sl=0)/\(i=1->∀ j,t.place=#[j]->sl=j + 1)) where
 mem:=by simp
 frame:=λi h h' st k=>by
  obtain⟨h1,h2,sl,B,N⟩:=st;exact⟨k p (by simp) _ h1,h2,sl,k I (by simp) _ B,N⟩
 item:=λi s v Q E q st hQ=>by
  obtain⟨h1,h2,sl,B,N,h5⟩:=st;refine aXr h1 h2 B ?_;dsimp only;refine aa (bX9 h1 h2 hw hled h1s ?_);have hi:i < es.size:=by
   have:=(aG.mp q).1
   rw[hv] at this;simpa using this
  have i0:i=0:=by lia
  subst i0;have R:=N rfl;subst R;have U:=cQh h2;obtain⟨j,J⟩:∃ j,t.place=#[j]:=by
   have:t.place.size=1:=by lia
   exact⟨t.place[0],Array.ext (by simp[this]) λk Z Y=>by
    have:k=0:=by lia
    subst this;simp⟩
  rw[J,bXa,if_neg (Nat.not_lt_zero _)];have ee:es[0]?=some es[0]:=by simp[hi]
  have e0:es[0].2=v:=by
   rw[hv,ba,aM,ee] at q;exact aR q
  have e1:es[0]?=some (es[0].1,v):=by rw[ee,<- e0]
  have e2:(#[j]:Array Nat)[0]?=some j:=rfl;rw[e1,e2];dsimp only;refine aa (cG B (by show 0 < 5;decide) λh' g1 g2=>?_)
  refine aa (cG g1 (by show 1 < 5;decide) λD g3 O=>?_)
  refine ae ⟨v,rfl,ae (hQ D ⟨?_,h2,j + 1,g3,(λz=>nomatch z),λ_ j' G=>?_⟩ λb o' L e=>(O.2 b L).trans ((g2.2 b L).trans e))⟩
  ·exact(O.2 p hpI).trans ((g2.2 p hpI).trans h1)
  ·rw[J] at G
   have:=congrArg (λa:Array Nat=>a[0]?) G
   simp at this;rw[this]
 done:=λs Q E st hQ=>by
  obtain⟨h1,h2,sl,B,N,h5⟩:=st;refine aXr h1 h2 B ?_;dsimp only;refine aa (bX9 h1 h2 hw hled h1s ?_);have hlen:vals.length=es.size:=by rw[hv];simp
  have U:=cQh h2;have nn:es[below t.place sl]?=none:=by
   by_cases c:es.size=0
   ·simp[c]
   ·have c1:es.size=1:=by lia
    obtain⟨j,J⟩:∃ j,t.place=#[j]:=by
     have:t.place.size=1:=by lia
     exact⟨t.place[0],Array.ext (by simp[this]) λk Z Y=>by
      have:k=0:=by lia
      subst this;simp⟩
    have:=h5 (by lia) j J
    rw[J,bXa,if_pos (by lia)]
    simp[c1]
  rw[nn];dsimp only;refine aa (cG B (by show 2 < 5;decide) λD g3 O=>?_)
  exact eQ4 (I:=I) hh λh3' k=>hQ h3' λb o' L e=>k b o' ((O.2 b L).trans e)
theorem fX1 {p:Addr} {es:Array (Int × ad)} {ep:Nat} {t:aS} {Q:ad->ai->Prop} (hh:A.in1.handled=none) (hp:s.heap.get? p=some (setOb es ep t)) (hf:t.fits es.size=true) (hled:t.led=ledOf w) (hpl:t.plain=true->es.size<=1) (hn:es.size<=300)
  (h:∀ I fp vals St h' d,vals.Perm (es.toList.map (·.2))->Gives prog w A I fp vals St->St 0 h'->s.heap.objs.size<=I->(∀ b∈fp,b=p\/s.heap.objs.size<=b)->(∀ b o,s.heap.get? b=some o->h'.get? b=some o)->Q (.ref I) { s with heap:=h',drawn:=d }) :
  aD (aF prog w) A (pyIter (.ref p)) Q E s:=by
 have hT:s.TypeIs (.ref p) "set":=⟨_,hp,rfl⟩;have U:p < s.heap.objs.size:=az hp;refine wpAny_pyIter_slot hT jj (cK jj hT bQe ?_ (PySem.F.args_set_iter_1 _));unfold cg.«frozenset.__iter__» cg.Frozenset.slot0 slotArgs;simp only[List.isEmpty_nil,fF,aL,↓reduceIte,bind_assoc,dN,bne_self_eq_false];unfold cg.Frozenset.addrOf cg.Frozenset.sizeOf;refine aa (ae ?_)
 try dsimp only
 refine aa (ae ?_);refine aa (aa (wpAny_setEntries_of hp rfl hf (ae ?_)));unfold setDrawn setsByText;refine aa (aa (db hp rfl hf ?_));dsimp only;refine aa (aa (dW (ae ?_)));refine ae ?_;have fin:∀ (first:ad) (h1:a9) (d:Drawn) (Q':Fin->ai->Prop),h1.get? p=some (setOb es ep t) ->
   Q' (.done (.ret (.ref h1.objs.size))) { s with heap:=h1.push (itOb first 0 p es.size ep),drawn:=d } ->
   aD (aF prog w) A.in1 (do
    let e <- setEpoch p
    let v <- newFields "set_iterator" [first,fw 0,.ref p,fw es.size,fw e]
    ret v) Q' E { s with heap:=h1,drawn:=d }:=by
  intro first h1 d Q' ho hQ';refine aa (wpAny_setEpoch_of (s:={ s with heap:=h1,drawn:=d }) ho rfl hf ?_)
  exact aa (bA (ae hQ'))
 refine gI (λhc=>?_) (λhc=>?_)
 ·refine aa (eJ6 es.size (aT es.size) (by simp) λys d B=>?_)
  have yl:ys.length=es.size:=by have:=B.length_eq;simpa using this
  have yr:∀ q∈ys,q < es.size:=λq hq=>aP.mp (B.mem_iff.mp hq);obtain⟨f1,f2⟩:=cQa (l:=ys) (f:=λq=>(es[q]?).map (·.2)) (λq hq=>by have:=yr q hq;simp[this])
  refine aa (bA ?_ (by show(ys.map λ(i:Nat)=>fw i).toArray.size<=sizeLine;rw[am,aj,yl,be];lia))
  generalize N:s.heap.push _=h1;have D:h1.objs.size=s.heap.objs.size + 1:=by rw[<- N,cE]
  have old:∀ b o,s.heap.get? b=some o->h1.get? b=some o:=λb o e=>by rw[<- N];exact ag _ e
  have Z:h1.get? s.heap.objs.size=some { cls:=.type "tuple",dict:=none,data:=.seq (ys.map λ(i:Nat)=>fw i).toArray }:=by rw[<- N];exact ax _ rfl
  refine fin (.ref s.heap.objs.size) h1 d _ (old p _ hp) ?_;have G:=eJ7 (prog:=prog) (w:=w) (A:=A) (p:=p) (I:=h1.objs.size) (T:=s.heap.objs.size) (es:=es) (ep:=ep) (t:=t) (vals:=ys.filterMap λq=>(es[q]?).map (·.2)) (places:=(ys.map λ(i:Nat)=>fw i).toArray) hh (by rw[D];exact Nat.ne_of_lt (Nat.lt_succ_self _)) (by rw[D];exact Nat.ne_of_lt (Nat.lt_succ_of_lt U)) (by simp[f1]) (λj pl hj=>by
   have hj':(ys.map λ(i:Nat)=>fw i)[j]?=some pl:=by simpa using hj
   rw[ba] at hj';cases q:ys[j]? with
   | none=>rw[q] at hj';cases hj'
   | some z =>
    rw[q] at hj';have hz:=yr z (ak q);refine⟨z,(aR hj').symm,es[z],by simp[hz],?_⟩
    rw[f2 j,q];simp[hz])
  refine⟨_,rfl, "set_iterator",_,⟨_,ax _ rfl,rfl⟩,slot_setit_next.lookup,h _ _ _ _ _ d ?_ G ⟨ag _ (old p _ hp),hf,ax _ rfl,_,_,ag _ Z,rfl⟩ (by rw[D];exact Nat.le_succ _) (λb Y=>?_) λb o e=>ag _ (old b o e)⟩
  ·refine(B.filterMap _).trans ?_;have e:(aT es.size).filterMap (λq=>(es[q]?).map (·.2))=es.toList.map (·.2):=by
    rw[<- cQc es,List.map_filterMap]
   rw[e]
  ·simp only[aB,eG,or_false] at Y;rcases Y with e | e | e
   ·right;rw[e,D];exact Nat.le_succ _
   ·exact .inl e
   ·right;rw[e];exact Nat.le_refl _
 ·refine aa (ae ?_);refine fin (fw 0) s.heap s.drawn _ hp ?_;have O:p≠s.heap.objs.size:=Nat.ne_of_lt U;have small:∀ b∈[s.heap.objs.size,p],b=p\/s.heap.objs.size<=b:=λb Y=>by
   simp only[aB,eG,or_false] at Y;rcases Y with e | e
   ·right;rw[e];exact Nat.le_refl _
   ·exact .inl e
  by_cases hw:w.params.followText "set-order" = true
  ·have G:=eJ8 (prog:=prog) (w:=w) (A:=A) (p:=p) (I:=s.heap.objs.size) (es:=es) (ep:=ep) (t:=t) hh O hw rfl;exact⟨_,rfl, "set_iterator",_,⟨_,ax _ rfl,rfl⟩,slot_setit_next.lookup,h _ _ _ _ _ s.drawn ((bQf _ _).map _) G ⟨ag _ hp,hf,ax _ rfl⟩ (Nat.le_refl _) small λb o e=>ag _ e⟩
  ·have L:w.params.followText "set-order" = false:=d7.mpr hw;have h1:es.size<=1:=by
    have J:¬ ((!(w.params.followText "set-order") && (!t.plain && decide (es.size > 1)))=true):=hc;rw[L] at J
    by_cases R:t.plain=true
    ·exact hpl R
    ·have:t.plain=false:=d7.mpr R
     rw[this] at J;simp at J;exact J
   have hl':t.led=true:=by rw[hled];show(!(w.params.followText "set-order"))=true;rw[L];rfl
   have G:=eJ9 (prog:=prog) (w:=w) (A:=A) (p:=p) (I:=s.heap.objs.size) (es:=es) (ep:=ep) (t:=t) hh O L hl' h1 rfl;exact⟨_,rfl, "set_iterator",_,⟨_,ax _ rfl,rfl⟩,slot_setit_next.lookup,h _ _ _ _ _ s.drawn (c9 _) G ⟨ag _ hp,hf,0,ax _ rfl,λ_=>rfl,(λz=>nomatch z)⟩ (Nat.le_refl _) small λb o e=>ag _ e⟩
theorem dZ6 {I S:Addr} {fp:List Addr} {vals:List ad} {St:Nat->a9->Prop} {R:Result->ai->Prop} (G:Gives prog w A.in1 I fp vals St) (hn:vals.length<=300) (hSf:S∉fp) (res:ad) :
  ∀ (k i:Nat) (s:ai) (c:Nat),vals.length - i=k->i<=vals.length->St i s.heap->s.heap.get? S=some { cls:=.type "list",dict:=none,data:=.seq (vals.take i).toArray c,slots:=#[] } ->
  (∀ h' c',(∀ b o,b≠S->b≠I->s.heap.get? b=some o->h'.get? b=some o)->h'.get? S=some { cls:=.type "list",dict:=none,data:=.seq vals.toArray c',slots:=#[] }->R (.ok (.ret res)) { s with heap:=h' }) ->
  fj (aF prog w) A (.builtin "list.extend.loop" ⟨[.ref S,.ref I,res],[]⟩) R s:=by
 have L:S≠I:=λe=>hSf (e ▸ G.mem);intro k
 induction k with
 | zero =>
  intro i s c hk hi j U hR;have Z:i=vals.length:=by lia
  subst Z;refine cj ii ?_;rw[bQ d4 _];show aD _ A.in1 (eV (.ref I) >>= _) _ _ s;refine aa (G.done s _ _ j λh' B=>?_);rw[bE (Nat.le_refl _)] at U;exact ae (hR h' c (λb o _ hb e=>B b o hb e) (B S _ L U))
 | succ k ih =>
  intro i s c hk hi j U hR;have z:i < vals.length:=by lia
  have hv:vals[i]?=some vals[i]:=af z;refine cj ii ?_;rw[bQ d4 _];show aD _ A.in1 (eV (.ref I) >>= _) _ _ s;refine aa (G.item i s _ _ _ hv j λh1 Y k1=>?_);have O:=k1 S _ L U;have szl:=be;have q:(vals.take i).toArray.size=i:=by rw[am,aQ];lia
  show aD _ A.in1 (updateSeq S (·.push vals[i]) >>= _) _ _ _;refine aa ?_;refine gJ (s:={ s with heap:=h1 }) O rfl (ae ⟨er d4 _,?_⟩) (by rw[q];lia) (by show((vals.take i).toArray.push vals[i]).size<=sizeLine + 1;rw[dq,q];lia)
  have hS2:=ca (bK (·.push vals[i])) O rfl;have et:(vals.take i).toArray.push vals[i]=(vals.take (i + 1)).toArray:=by
   rw[dH,hv];simp
  obtain⟨c1,N⟩:∃ c1,(h1.update S (bK (·.push vals[i]))).get? S=some { cls:=.type "list",dict:=none,data:=.seq (vals.take (i + 1)).toArray c1,slots:=#[] }:=⟨_,by rw[<- et];exact hS2⟩
  refine ih (i + 1) { s with heap:=h1.update S (bK (·.push vals[i])) } c1 (by lia) z (G.frame _ _ _ Y λb hb o e=>(cv _ _ (λh:S=b=>hSf (by rw[h];exact hb))).trans e) N λh' c' a1 a2=>?_
  ·exact hR h' c' (λb o J D e=>a1 b o J D ((cv _ _ (cf J)).trans (k1 b o D e))) a2
theorem collectT {p:Addr} {es:Array (Int × ad)} {ep:Nat} {t:aS} {Q:List ad->ai->Prop} (hh:A.handled=none) (hp:s.heap.get? p=some (setOb es ep t)) (hf:t.fits es.size=true) (hled:t.led=ledOf w) (hpl:t.plain=true->es.size<=1) (hn:es.size<=300)
  (h:∀ vals h' d,vals.Perm (es.toList.map (·.2))->(∀ b o,s.heap.get? b=some o->h'.get? b=some o)->Q vals { s with heap:=h',drawn:=d }):aD (aF prog w) A (collect (.ref p)) Q E s:=by
 have N:p < s.heap.objs.size:=az hp;have hT:∀ s':ai,s'.heap.get? p=some (setOb es ep t)->s'.TypeIs (.ref p) "set":=λs' e=>⟨_,e,rfl⟩;unfold collect;refine aa (wpAny_runValue (cj PySem.F.entry_proto_collect ?_));rw[bQ PySem.F.plain_proto_collect _];show aD _ A.in1 (newList [] >>= λl=>again (.builtin "list.__iadd__" ⟨[l,.ref p],[]⟩)) _ _ s;refine aa (bA ?_);refine ae ⟨er iT _,cj PySem.F.entry_list_iadd ?_⟩;rw[bQ iT _];show aD _ A.in1 (gR (.ref s.heap.objs.size) (.ref p) (.ref s.heap.objs.size)) _ _ _;generalize J:s.heap.push _=h1;have old:∀ b o,s.heap.get? b=some o->h1.get? b=some o:=λb o e=>by rw[<- J];exact ag _ e
 have L:h1.objs.size=s.heap.objs.size + 1:=by rw[<- J,cE]
 have hS1:h1.get? s.heap.objs.size=some { cls:=.type "list",dict:=none,data:=.seq #[] 0,slots:=#[] }:=by rw[<- J];exact ax _ rfl
 have D:=old p _ hp;unfold gR;refine aa (eQ (hT { s with heap:=h1 } D) ?_)
 have e1:iA (.ref s.heap.objs.size) (.ref p)=false:=by simp[iA,Nat.ne_of_gt N]
 rw[if_neg (by rw[e1];decide)]
 refine aa (fX1 (s:={ s with heap:=h1 }) hh D hf hled hpl hn λI fp vals St h2 d B G Y hI hfp Z=>?_)
 have hvl:vals.length=es.size:=by have:=B.length_eq;simpa using this
 have hI':h1.objs.size<=I:=hI;have hSI:s.heap.objs.size≠I:=by lia
 refine aa (bh (eQ2 (Z p _ D) ?_));have O:s.heap.objs.size∉fp:=λz=>by
  have q:=hfp _ z;have q':s.heap.objs.size=p\/h1.objs.size<=s.heap.objs.size:=q;rcases q' with e | e
  ·exact absurd e (Nat.ne_of_gt N)
  ·rw[L] at e;exact absurd e (Nat.not_succ_le_self _)
 refine gI (λ_=>?_) (λhc=>absurd (by decide +kernel) hc)
 refine aa (c7 ?_);refine aa ?_;have U:=Z _ _ hS1;show aD _ _ (updateSeq s.heap.objs.size (·.push .none) >>= λ_=>updateSeq s.heap.objs.size (·.pop)) _ _ _;refine aa (gJ U rfl ?_);have R:=ca (bK (·.push bX)) U rfl;refine gJ (hz:=by seq_fits) R rfl ?_
 have hS4:=ca (bK (·.pop)) R rfl;refine ae ⟨er d4 _,?_⟩;refine dZ6 G (by lia) O _ (vals.length - 0) 0 _ _ rfl (Nat.zero_le _) (G.frame _ _ _ Y λb hb o e=>?_) hS4 λh' c' a1 a2=>?_
 ·have j:b≠s.heap.objs.size:=λz=>O (z ▸ hb);exact(cv _ _ (cf j)).trans ((cv _ _ (cf j)).trans e)
 ·show aD _ A (load s.heap.objs.size >>= _) _ _ _;refine aa (wpAny_load a2 ?_)
  have:=h vals h' d B λb o e=>?_
  ·exact ae this
  ·have j:b≠s.heap.objs.size:=Nat.ne_of_lt (az e);have hbI:b≠I:=Nat.ne_of_lt (Nat.lt_of_lt_of_le (az e) (Nat.le_trans (by rw[L];exact Nat.le_succ _) hI'))
   exact a1 b o j hbI ((cv _ _ (cf j)).trans ((cv _ _ (cf j)).trans (Z b o (old b o e))))
end
end ST
namespace KS
open PySem PySem.W PyProof.Rows
def TS (h:a9) (v:ad) (d:List Str):Prop:=∃ b items,v=.ref b/\IsTup h b items/\HT.SAre items.toList d
section
variable {prog:aC} {w:aO} {A:aY} {E:ad->ai->Prop} {s:ai}
theorem dXi {Q:Bool->ai->Prop}:∀ {us vs:List ad} {d e:List Str} (i:Nat) {fin:Bool},HT.SAre us d->HT.SAre vs e->fin=decide (d.length < e.length)->Q (HT.lexS d e) s->KatLex prog w A true fin Q (us.zip vs) i s
 | _,_,_,_,i,fin,.nil,.nil,hf,h=>by subst hf;exact kat_nil h
 | _,_,_,_,i,fin,.nil,.cons _ _,hf,h=>by
  subst hf;rw[List.zip_nil_left];rw[HT.lexS_nil_cons] at h;exact kat_nil (by simpa using h)
 | _,_,_,_,i,fin,.cons _ _,.nil,hf,h=>by
  subst hf;rw[hX];rw[HT.lexS_cons_nil] at h;exact kat_nil (by simpa using h)
 | _,_,x::d,y::e,i,fin,.cons ⟨t,B⟩ p,.cons ⟨u,j⟩ q,hf,h=>by
  subst B j;rw[eR];rw[HT.lexS_cons] at h;refine kat_cons (hW x t y u _ _ _ _ ?_);refine kat_go (λz=>kat_yes (dXi (i + 1) p q (by subst hf;simp) (by rw[if_pos (by simpa using z)] at h;exact h))) λz=>kat_no ?_
  rw[if_neg (by simpa using z)] at h
  cases i with
  | zero=>exact oneLt_str h
  | succ i =>
   show aD _ _ (oneLt' false _ _) _ _ _;exact kat_one _ _ (jv (show PySem.W.BoolBack Q (.bool (HT.ltS x y)) s from h))
theorem cXw {x y:ad} {d e:List Str} {Q:Bool->ai->Prop} (hx:TS s.heap x d) (hy:TS s.heap y e) (h:Q (HT.lexS d e) s):aD (aF prog w) A (keyLt' (tuples' true) x y) Q E s:=by
 obtain⟨b,items,rfl,⟨o,D,_,n,hd⟩,p⟩:=hx;obtain⟨b2,j,rfl,⟨G,q,_,J,hd2⟩,p2⟩:=hy;refine kat_lt D hd q hd2 (dXi 0 p p2 ?_ h);have B:=p.len;have z:=p2.len;simp only[aK] at B z;rw[B,z]
theorem cZl {x y:ad} {d e:List Str} {Q:Bool->ai->Prop} (hu:A.units < cx) (hx:TS s.heap x d) (hy:TS s.heap y e) (h:Q (HT.lexS d e) s):aD (aF prog w) A (keyLt' general' x y) Q E s:=by
 obtain⟨b,items,rfl,t1,p⟩:=hx;obtain⟨b2,j,rfl,q,p2⟩:=hy;show aD _ _ (oneLt' false _ _) _ _ _;exact kat_one _ _ (HT.lt_tupStrs t1 q p p2 hu (show PySem.W.BoolBack Q (.bool (HT.lexS d e)) s from h))
theorem eJa {x y:ad} {d e:List Str} {Q:Bool->ai->Prop} (hu:A.units < cx) (hx:TS s.heap x d) (hy:TS s.heap y e) (h:Q (HT.lexS d e) s):aD (aF prog w) A (keyLt' oneType' x y) Q E s:=by
 obtain⟨b,items,rfl,t1,p⟩:=hx;obtain⟨b2,j,rfl,N,p2⟩:=hy;rw[keyLt'_oneType,oneLt'_eq];simp only[if_true];obtain⟨⟨cls,dd,data,sl⟩,D,J,n,hd⟩:=id t1;obtain⟨⟨L,G,data2,z⟩,B,q,O,hd2⟩:=id N;simp only at J hd q hd2;subst J hd q hd2;refine aa (wpAny_cRoomFor hu ?_);refine aa (wpAny_callSpecialIfBound?_slot ⟨_,D,rfl⟩ gj (g6 gj ⟨_,D,rfl⟩ jb (iS _ _) (HT.tuple_lt_strs b b2 items j n O dd G sl z d e p p2) ⟨D,B,?_⟩));exact eX h
theorem bXb:∀ {vs:List ad} {ds:List (List Str)} {Q:List (Option ad)->ai->Prop},bb (TS s.heap) vs ds->(∀ fs:List (Option ad),bb (λf d=>match f with | none=>d=[] | some v=>∃ x r t,d=x::r/\v=.str x t) fs ds->Q fs s)->aD (aF prog w) A (vs.mapM firstOfTuple') Q E s
 | _,_,_,.nil,h=>by rw[List.mapM_nil];exact ae (h [] .nil)
 | _,_,Q,.cons p q,h=>by
  obtain⟨b,items,rfl,⟨o,j,D,n,hd⟩,sa⟩:=p;rw[List.mapM_cons];refine aa ?_;rw[kas_first_eq];refine aa (Looks.here (show Looks (aF prog w) s.heap (typeOf (.ref b)) o.cls from(Looks.ld j).andThen .now) ?_)
  rw[D,if_neg (by first | decide | simp)]
  refine aa (listItems_at j hd (ae ?_));refine aa (bXb q λfs pf=>ae (h _ (.cons ?_ pf)));obtain⟨items⟩:=items;have sa:HT.SAre items _:=sa;have e:(Array.mk items)[0]?=items[0]?:=by simp
  rw[e];cases sa with
  | nil=>rfl
  | cons z _=>obtain⟨t,B⟩:=z;exact⟨_,_,t,rfl,B⟩
theorem eQ5 {vs:List ad} {ds:List (List Str)} {Q:eI->ai->Prop} (p:bb (TS s.heap) vs ds) (hne:vs≠[]) (h:∀ κ,κ=tuples' true\/κ=general'\/κ=oneType'->Q κ s):aD (aF prog w) A (keyKind' vs.toArray) Q E s:=by
 rw[kat_kind_eq,iq,map_eq_pure_bind];refine aa (aa (bXb p λfs pf=>ae ?_))
 by_cases j:(fs.toArray.all λx=>x.isSome)=true
 ·rw[if_pos j];refine aa (c7 ?_);rw[oneTypeOnly'_eq];have G:∀ v∈(fs.toArray.filterMap id).toList,∃ x t,v=.str x t:=λv G=>by
   simp only[Array.toList_filterMap,eP,id] at G;obtain⟨f,hf,rfl⟩:=G
   have:∀ {fs:List (Option ad)} {ds:List (List Str)},bb (λf d=>match f with | none=>d=[] | some v=>∃ x r t,d=x::r/\v=.str x t) fs ds->some v∈fs->∃ x t,v=.str x t:=by
    intro fs ds pf
    induction pf with
    | nil=>intro hm;cases hm
    | cons z _ J =>
     intro hm;rcases aB.mp hm with e | hm
     ·subst e;obtain⟨x,r,t,_,e⟩:=z;exact⟨x,t,e⟩
     ·exact J hm
   exact this pf hf
  have q:(fs.toArray.filterMap id).toList≠[]:=by
   have N:fs.length=vs.length:=by have:=b6 p;have:=b6 pf;lia
   cases fs with
   | nil=>exact absurd (bV (by simpa using N.symm)) hne
   | cons f fs =>
    simp only[List.all_toArray,List.all_cons,bm] at j;obtain⟨v,rfl⟩:=cy.mp j.1;simp
  generalize (fs.toArray.filterMap id)=gs at G q;obtain⟨gs⟩:=gs;rw[iq,map_eq_pure_bind];refine aa (aa (aa (kas_mapM (r:=cO "str") gs (λv B U L=>?_) (ae ?_))))
  ·obtain⟨x,t,rfl⟩:=G v B;exact ae L
  ·obtain⟨g,gr,rfl⟩:∃ g gr,gs=g::gr:=by
    cases gs with
    | nil=>exact absurd rfl q
    | cons g gr=>exact⟨g,gr,rfl⟩
   have h0:(jA (λ_=>cO "str") (g::gr)).toArray[0]?=some (cO "str"):=by simp
   have D:((jA (λ_=>cO "str") (g::gr)).toArray.all λx=>x == cO "str")=true:=by
    simp only[List.all_toArray,ef,br];intro _ _;simp
   rw[h0];simp only[D,if_true];exact ae (ae (h _ (.inl rfl)))
 ·rw[if_neg j]
  by_cases h1:((fs.toArray[0]?.bind id).isSome)=true
  ·rw[if_pos h1];exact ae (h _ (.inr (.inl rfl)))
  ·rw[if_neg h1,oneTypeOnly'_eq,iq,map_eq_pure_bind];refine aa (aa (aa (kas_mapM (r:=cO "tuple") vs (λv B U L=>?_) (ae ?_))))
   ·have:∀ {vs:List ad} {ds:List (List Str)},bb (TS s.heap) vs ds->v∈vs->∃ d,TS s.heap v d:=by
     intro vs ds pp
     induction pp with
     | nil=>intro hm;cases hm
     | cons z _ J =>
      intro hm;rcases aB.mp hm with e | hm
      ·subst e;exact⟨_,z⟩
      ·exact J hm
    obtain⟨d,b,items,rfl,⟨o,O,R,_⟩,_⟩:=this p B;refine Looks.here (show Looks (aF prog w) s.heap (typeOf (.ref b)) (.type "tuple") from ?_) L
    rw[<- R];exact(Looks.ld O).andThen .now
   ·generalize (jA (λ_=>cO "tuple") vs).toArray=ts;cases ts[0]? with
    | none=>exact ae (ae (by first | exact h _ (.inr (.inl rfl)) | exact h _ (.inr (.inr rfl))))
    | some t =>
     by_cases h2:(ts.all (· == t))=true
     ·simp only[h2,if_true];exact ae (ae (h _ (.inr (.inr rfl))))
     ·simp only[h2,if_false];exact ae (ae (h _ (.inr (.inl rfl))))
end
end KS
namespace SF
open PySem PyProof.Rows
abbrev SM:=StateT cH Sem
def gal:Bool->aI->Array aI->Nat->Nat->Nat->SM (Option Nat):=sortPriv% PySem.Builtin.gallop
def mLo:Array aI->Array aI->SM (Array aI):=sortPriv% PySem.Builtin.mergeLo
def mHi:Array aI->Array aI->SM (Array aI):=sortPriv% PySem.Builtin.mergeHi
abbrev setG (st:cH) (g:Nat):cH:=h8 (kindOf st) (aN st) (bF st) g (ff st)
def bey (lf:Bool) (key:aI) (arr:Array aI) (b0 i:Nat):SM (Option Bool):=do
 let x <- dY arr (b0 + i)
 if lf then lt' x key else return (<- lt' key x).map (!·)
theorem eJb (lf:Bool) (key:aI) (arr:Array aI) (b0 n at0:Nat):gal lf key arr b0 n at0=(do
 let mut lastofs:=0
 let mut ofs:=1
 let mut lo:=0
 let mut hi:=0
 let some rt <- bey lf key arr b0 at0 | return none
 if rt then
  let mx:=n - at0
  for _ in [0:n] do
   if ofs >= mx then break
   let some m1 <- bey lf key arr b0 (at0 + ofs) | return none
   if !m1 then break
   lastofs:=ofs
   ofs:=2 * ofs + 1
  lo:=at0 + lastofs + 1
  hi:=at0 + min ofs mx
 else
  let mx:=at0 + 1
  for _ in [0:n] do
   if ofs >= mx then break
   let some f1 <- bey lf key arr b0 (at0 - ofs) | return none
   if f1 then break
   lastofs:=ofs
   ofs:=2 * ofs + 1
  lo:=at0 + 1 - min ofs mx
  hi:=at0 - lastofs
 for _ in [0:n] do
  if lo >= hi then break
  let m:=lo + (hi - lo) / 2
  let some m2 <- bey lf key arr b0 m | return none
  if m2 then lo:=m + 1 else hi:=m
 return some hi):=rfl
theorem eJc (a b:Array aI):mLo a b=(do
 rule "list.sort.merge-lo"
 let total:=a.size + b.size
 let fin (o:Array aI) (ia ib:Nat):=o++a.extract ia a.size++b.extract ib b.size
 let lst (o:Array aI) (ia ib:Nat):=o++b.extract ib b.size++a.extract ia a.size
 let mut out:Array aI:=#[<- dY b 0]
 let mut ia:=0
 let mut ib:=1
 if ib == b.size then return fin out ia ib
 if ia + 1 == a.size then return lst out ia ib
 let mut minGallop:=gallopOf (<- get)
 for _ in [0:total] do
  let mut acount:=0
  let mut bcount:=0
  for _ in [0:total] do
   let some bw <- lt' (<- dY b ib) (<- dY a ia) | return fin out ia ib
   if bw then
    out:=out.push (<- dY b ib)
    ib:=ib + 1
    bcount:=bcount + 1
    acount:=0
    if ib == b.size then return fin out ia ib
    if bcount >= minGallop then break
   else
    out:=out.push (<- dY a ia)
    ia:=ia + 1
    acount:=acount + 1
    bcount:=0
    if ia + 1 == a.size then return lst out ia ib
    if acount >= minGallop then break
  rule "list.sort.gallop"
  minGallop:=minGallop + 1
  for _ in [0:total] do
   if minGallop > 1 then minGallop:=minGallop - 1
   modify (λs=>setG s minGallop)
   let some k <- gal false (<- dY b ib) a ia (a.size - ia) 0 | return fin out ia ib
   acount:=k
   if k > 0 then
    out:=out++a.extract ia (ia + k)
    ia:=ia + k
    if ia + 1 == a.size then return lst out ia ib
    if ia == a.size then return fin out ia ib
   out:=out.push (<- dY b ib)
   ib:=ib + 1
   if ib == b.size then return fin out ia ib
   let some k <- gal true (<- dY a ia) b ib (b.size - ib) 0 | return fin out ia ib
   bcount:=k
   if k > 0 then
    out:=out++b.extract ib (ib + k)
    ib:=ib + k
    if ib == b.size then return fin out ia ib
   out:=out.push (<- dY a ia)
   ia:=ia + 1
   if ia + 1 == a.size then return lst out ia ib
   if acount < 7 && bcount < 7 then break
  minGallop:=minGallop + 1
  modify (λs=>setG s minGallop)
 eM "internal:list.sort.merge-bound"):=rfl
structure Orc (prog:aC) (w:aO) (A:aY) (s:ai) (κ:eI) (P:aI->Prop) (lt:aI->aI->Bool):Prop where
 ask:∀ x y (Q:Bool->ai->Prop),P x->P y->Q (lt x y) s->aD (aF prog w) A (keyLt' κ x.1 y.1) Q (λ_ _=>False) s
 as:∀ x y,P x->P y->lt x y=true->lt y x=false
 tr:∀ x y z,P x->P y->P z->lt y x=false->lt z y=false->lt z x=false
section
variable {prog:aC} {w:aO} {A:aY} {E:ad->ai->Prop} {s:ai} {κ:eI} {P:aI->Prop} {lt:aI->aI->Bool}
theorem cXx (o:Orc prog w A s κ P lt) {st:cH} {x y:aI} {Q:Option Bool->cH->Prop} (hk:kindOf st=κ) (hx:P x) (hy:P y) (h:Q (some (lt x y)) st):wpS (aF prog w) A E s (lt' x y) Q st:=by
 rw[lt'_eq];refine au (gS ?_);rw[hk];refine au (h9 (wpAny_attempt (c6 (o.ask x y (λb s'=>s'=s/\b=lt x y) hx hy ⟨rfl,rfl⟩) (λb s' j=>?_) λ_ _ q=>q.elim)));obtain⟨rfl,rfl⟩:=j;exact⟨rfl,aA h⟩
theorem aZd {st:cH} {arr:Array aI} {i:Nat} {x:aI} {Q:aI->cH->Prop} (hx:arr[i]?=some x) (h:Q x st):wpS (aF prog w) A E s (dY arr i) Q st:=by
 rw[elem'_eq,hx];exact aA h
def bv (lt:aI->aI->Bool) (lf:Bool) (key x:aI):Bool:=if lf then lt x key else !lt key x
theorem bXc (o:Orc prog w A s κ P lt) {st:cH} {lf:Bool} {key x:aI} {arr:Array aI} {b0 i:Nat} {Q:Option Bool->cH->Prop} (hk:kindOf st=κ) (hkey:P key) (hx:arr[b0 + i]?=some x) (px:P x) (h:Q (some (bv lt lf key x)) st):wpS (aF prog w) A E s (bey lf key arr b0 i) Q st:=by
 unfold bey;refine au (aZd hx ?_);cases lf with
 | true=>exact cXx o hk px hkey h
 | false=>exact au (cXx o hk hkey px (aA h))
theorem dXj {st:cH} {b:Nat->Bool} {n lo hi:Nat} {body:Nat->Option (Option Nat) × Nat × Nat->SM (ForInStep (Option (Option Nat) × Nat × Nat))} {Q:Option (Option Nat) × Nat × Nat->cH->Prop}
  (hb:∀ x lo hi (Q':ForInStep (Option (Option Nat) × Nat × Nat)->cH->Prop),hi<=n->(hi<=lo->Q' (.done (none,lo,hi)) st)->(lo < hi->b (lo + (hi - lo) / 2)=true->Q' (.yield (none,lo + (hi - lo) / 2 + 1,hi)) st)->(lo < hi->b (lo + (hi - lo) / 2)=false->Q' (.yield (none,lo,lo + (hi - lo) / 2)) st)->wpS (aF prog w) A E s (body x (none,lo,hi)) Q' st)
  (mono:∀ i j,i<=j->j < n->b j=true->b i=true) (h1:lo<=hi) (h2:hi<=n) (h3:∀ i,i < lo->b i=true) (h4:∀ i,hi<=i->i < n->b i=false)
  (h:∀ k,k<=n->(∀ i,i < k->b i=true)->(∀ i,k<=i->i < n->b i=false)->Q (none,k,k) st):wpS (aF prog w) A E s (forIn [0:n] ((none,lo,hi):Option (Option Nat) × Nat × Nat) body) Q st:=by
 refine cY (bI (I:=λx c q=>q=st/\∃ lo hi,c=(none,lo,hi)/\lo<=hi/\hi<=n/\hi + x<=lo + n/\(∀ i,i < lo->b i=true)/\∀ i,hi<=i->i < n->b i=false)
  (Q:=λc q=>q=st/\∃ lo hi,c=(none,lo,hi)/\hi<=lo/\lo<=hi/\hi<=n/\(∀ i,i < lo->b i=true)/\∀ i,hi<=i->i < n->b i=false) ?_ ?_ ⟨rfl,lo,hi,rfl,h1,h2,by omega,h3,h4⟩) ?_
 ·rintro x c q _ L ⟨rfl,lo,hi,rfl,a1,a2,J,B,z⟩;refine hb x lo hi _ a2 (λD=>⟨rfl,lo,hi,rfl,D,a1,a2,B,z⟩) (λD e=>⟨rfl,_,_,rfl,by omega,a2,by omega,λi G=>mono i _ (by omega) (by omega) e,z⟩) λD e=>⟨rfl,_,_,rfl,by omega,by omega,by omega,B,λi h1 h2=>?_⟩
  cases e2:b i with
  | false=>rfl
  | true=>rw[mono _ i h1 h2 e2] at e;cases e
 ·rintro c q ⟨rfl,lo,hi,rfl,a1,a2,J,B,z⟩;exact⟨rfl,lo,hi,rfl,by omega,a1,a2,B,z⟩
 ·rintro c q ⟨rfl,lo,hi,rfl,a0,a1,a2,B,z⟩
  have:lo=hi:=by omega
  subst this;exact h lo a2 B z
theorem bQw (o:Orc prog w A s κ P lt) {st:cH} {lf:Bool} {key:aI} {arr:Array aI} {b0 n at0:Nat} {f:Nat->aI} {Q:Option Nat->cH->Prop} (hk:kindOf st=κ) (hkey:P key)
  (hf:∀ i,i < n->arr[b0 + i]?=some (f i)/\P (f i)) (mono:∀ i j,i<=j->j < n->bv lt lf key (f j)=true->bv lt lf key (f i)=true) (h0:at0 < n)
  (h:∀ k,k<=n->(∀ i,i < k->bv lt lf key (f i)=true)->(∀ i,k<=i->i < n->bv lt lf key (f i)=false)->Q (some k) st):wpS (aF prog w) A E s (gal lf key arr b0 n at0) Q st:=by
 rw[eJb];dsimp only;have up:∀ i j,i<=j->j < n->bv lt lf key (f i)=false->bv lt lf key (f j)=false:=λi j h1 h2 h3=>by
  cases e:bv lt lf key (f j) with
  | false=>rfl
  | true=>rw[mono i j h1 h2 e] at h3;cases h3
 refine au (bXc o hk hkey (hf at0 h0).1 (hf at0 h0).2 ?_);dsimp only;cases e0:bv lt lf key (f at0) with
 | true =>
  rw[if_pos rfl];refine au (cY (bI (I:=λx c B=>B=st/\∃ l q,c=(none,l,q)/\l < q/\x + 1<=q/\at0 + l < n/\bv lt lf key (f (at0 + l))=true)
   (Q:=λc B=>B=st/\∃ l q,c=(none,l,q)/\l < q/\at0 + l < n/\bv lt lf key (f (at0 + l))=true/\(n - at0<=q\/(at0 + q < n/\bv lt lf key (f (at0 + q))=false))) ?_ ?_ ⟨rfl,0,1,rfl,by decide,by decide,h0,e0⟩) ?_)
  ·rintro x c B _ hx ⟨rfl,l,q,rfl,a1,a2,J,G⟩;dsimp only
   by_cases D:q >= n - at0
   ·rw[if_pos D];exact aA ⟨rfl,l,q,rfl,a1,J,G,.inl D⟩
   ·rw[if_neg D];have hm:at0 + q < n:=by omega
    refine au (bXc o hk hkey (hf _ hm).1 (hf _ hm).2 ?_);dsimp only;cases e:bv lt lf key (f (at0 + q)) with
    | true=>rw[if_neg (by simp)];exact aA ⟨rfl,q,_,rfl,by omega,by omega,hm,e⟩
    | false=>rw[if_pos (by rfl)];exact aA ⟨rfl,l,q,rfl,a1,J,G,.inr ⟨hm,e⟩⟩
  ·rintro c B ⟨rfl,l,q,rfl,a1,a2,J,G⟩;exact⟨rfl,l,q,rfl,a1,J,G,.inl (by omega)⟩
  ·rintro c B ⟨rfl,l,q,rfl,a1,J,G,a5⟩;have H4:∀ i,at0 + min q (n - at0)<=i->i < n->bv lt lf key (f i)=false:=λi h1 h2=>by
    rcases a5 with z | ⟨z1,L⟩
    ·omega
    ·exact up (at0 + q) i (by omega) h2 L
   refine au (dXj (b:=λi=>bv lt lf key (f i)) (n:=n) (lo:=at0 + l + 1) (hi:=at0 + min q (n - at0)) (λx lo hi Q' hn R O N=>?_) mono (by omega) (by omega) (λi hi=>mono i (at0 + l) (by omega) J G) H4 λk Z Y U=>aA (h k Z Y U))
   dsimp only
   by_cases D:lo >= hi
   ·rw[if_pos D];exact aA (R D)
   ·rw[if_neg D];have hm:lo + (hi - lo) / 2 < n:=by omega
    refine au (bXc o hk hkey (hf _ hm).1 (hf _ hm).2 ?_);dsimp only;cases e:bv lt lf key (f (lo + (hi - lo) / 2)) with
    | true=>rw[if_pos rfl];exact aA (O (by omega) e)
    | false=>rw[if_neg (by simp)];exact aA (N (by omega) e)
 | false =>
  rw[if_neg (by simp)]
  refine au (cY (bI (I:=λx c B=>B=st/\∃ l q,c=(none,l,q)/\l < q/\x + 1<=q/\l<=at0/\bv lt lf key (f (at0 - l))=false)
   (Q:=λc B=>B=st/\∃ l q,c=(none,l,q)/\l < q/\l<=at0/\bv lt lf key (f (at0 - l))=false/\(at0 + 1<=q\/(q<=at0/\bv lt lf key (f (at0 - q))=true))) ?_ ?_ ⟨rfl,0,1,rfl,by decide,by decide,Nat.zero_le _,e0⟩) ?_)
  ·rintro x c B _ hx ⟨rfl,l,q,rfl,a1,a2,J,G⟩;dsimp only
   by_cases D:q >= at0 + 1
   ·rw[if_pos D];exact aA ⟨rfl,l,q,rfl,a1,J,G,.inl D⟩
   ·rw[if_neg D];have hm:at0 - q < n:=by omega
    refine au (bXc o hk hkey (hf _ hm).1 (hf _ hm).2 ?_);dsimp only;cases e:bv lt lf key (f (at0 - q)) with
    | true=>rw[if_pos rfl];exact aA ⟨rfl,l,q,rfl,a1,J,G,.inr ⟨by omega,e⟩⟩
    | false=>rw[if_neg (by simp)];exact aA ⟨rfl,q,_,rfl,by omega,by omega,by omega,e⟩
  ·rintro c B ⟨rfl,l,q,rfl,a1,a2,J,G⟩;exact⟨rfl,l,q,rfl,a1,J,G,.inl (by omega)⟩
  ·rintro c B ⟨rfl,l,q,rfl,a1,J,G,a5⟩;have H3:∀ i,i < at0 + 1 - min q (at0 + 1)->bv lt lf key (f i)=true:=λi hi=>by
    rcases a5 with z | ⟨z1,L⟩
    ·omega
    ·exact mono i (at0 - q) (by omega) (by omega) L
   refine au (dXj (b:=λi=>bv lt lf key (f i)) (n:=n) (lo:=at0 + 1 - min q (at0 + 1)) (hi:=at0 - l) (λx lo hi Q' hn R O N=>?_) mono (by omega) (by omega) H3 (λi h1 h2=>up (at0 - l) i h1 h2 G) λk Z Y U=>aA (h k Z Y U))
   dsimp only
   by_cases D:lo >= hi
   ·rw[if_pos D];exact aA (R D)
   ·rw[if_neg D];have hm:lo + (hi - lo) / 2 < n:=by omega
    refine au (bXc o hk hkey (hf _ hm).1 (hf _ hm).2 ?_);dsimp only;cases e:bv lt lf key (f (lo + (hi - lo) / 2)) with
    | true=>rw[if_pos rfl];exact aA (O (by omega) e)
    | false=>rw[if_neg (by simp)];exact aA (N (by omega) e)
end
def Sd {α:Type} (lt:α->α->Bool) (l:List α):Prop:=l.Pairwise λx y=>lt y x=false
structure Iv {α:Type} (lt:α->α->Bool) (T out rest:List α):Prop where
 perm:(out++rest).Perm T
 sd:Sd lt out
 lo:∀ x∈out,∀ y∈rest,lt y x=false
section
variable {α:Type} {lt:α->α->Bool} {T out rest:List α}
theorem Iv.step (h:Iv lt T out rest) {xs rest':List α} (hp:rest.Perm (xs++rest')) (hs:Sd lt xs) (hl:∀ x∈xs,∀ y∈rest',lt y x=false):Iv lt T (out++xs) rest':=by
 refine⟨?_,bf.mpr ⟨h.sd,hs,λx q y j=>h.lo x q y (hp.mem_iff.mpr (bZ _ j))⟩,λx q y j=>?_⟩
 ·rw[aZ];exact(d0 out hp.symm).trans h.perm
 ·rcases ar.mp q with z | z
  ·exact h.lo x z y (hp.mem_iff.mpr (aU _ j))
  ·exact hl x z y j
theorem Iv.done (h:Iv lt T out rest) (hs:Sd lt rest):Sd lt (out++rest)/\(out++rest).Perm T:=⟨bf.mpr ⟨h.sd,hs,h.lo⟩,h.perm⟩
theorem Iv.perm' (h:Iv lt T out rest) {rest':List α} (hp:rest.Perm rest'):Iv lt T out rest':=⟨(d0 out hp.symm).trans h.perm,h.sd,λx q y j=>h.lo x q y (hp.mem_iff.mpr j)⟩
theorem Iv.size (h:Iv lt T out rest):out.length + rest.length=T.length:=by rw[<- av];exact h.perm.length_eq
theorem bJe {l:List α} {i:Nat} {x:α} (h:l[i]?=some x):l.drop i=x::l.drop (i + 1):=by
 have hi:=(aG.mp h).1;rw[bY hi]
 congr 1
 exact(aG.mp h).2
theorem Sd.drop {l:List α} (h:Sd lt l) (i:Nat):Sd lt (l.drop i):=h.sublist (List.drop_sublist _ _)
theorem Sd.at {l:List α} (h:Sd lt l) {i j:Nat} {x y:α} (hij:i < j) (hx:l[i]?=some x) (hy:l[j]?=some y):lt y x=false:=by
 obtain⟨h1,e1⟩:=aG.mp hx;obtain⟨h2,e2⟩:=aG.mp hy
 have:=cr.mp h i j h1 h2 hij
 rw[e1,e2] at this;exact this
theorem aQo {l:List α} {i:Nat} {y:α} (h:y∈l.drop i):∃ j,i<=j/\l[j]?=some y:=by
 obtain⟨k,q,e⟩:=bB h;rw[f7] at e;rw[bq] at q;exact⟨i + k,by omega,by rw[af (by omega),e]⟩
end
section
variable {prog:aC} {w:aO} {A:aY} {s:ai} {κ:eI} {P:aI->Prop} {lt:aI->aI->Bool} {T out la lb:List aI} {ia ib:Nat} {x y:aI}
theorem bXd (o:Orc prog w A s κ P lt) {l:List aI} (hP:∀ z∈l,P z) (hs:Sd lt l) {i:Nat} {z:aI} (hz:P z) {y:aI} (hy:l[i]?=some y) (h:lt y z=false):∀ u∈l.drop i,lt u z=false:=λu B=>by
 obtain⟨j,D,e⟩:=aQo B;rcases Nat.eq_or_lt_of_le D with rfl | q
 ·rw[hy] at e;cases e;exact h
 ·exact o.tr z y u hz (hP y (ak hy)) (hP u (ak e)) h (hs.at q hy e)
theorem Iv.pushB (h:Iv lt T out (la.drop ia++lb.drop ib)) (sb:Sd lt lb) (hy:lb[ib]?=some y) (hl:∀ u∈la.drop ia,lt u y=false):Iv lt T (out++[y]) (la.drop ia++lb.drop (ib + 1)):=by
 refine h.step ?_ (bJ _ _) λx q u B=>?_
 ·rw[bJe hy];exact fm
 ·rw[aE.mp q];rcases ar.mp B with z | z
  ·exact hl u z
  ·obtain⟨j,D,e⟩:=aQo z;exact sb.at (by omega) hy e
theorem Iv.pushA (h:Iv lt T out (la.drop ia++lb.drop ib)) (sa:Sd lt la) (hx:la[ia]?=some x) (hl:∀ u∈lb.drop ib,lt u x=false):Iv lt T (out++[x]) (la.drop (ia + 1)++lb.drop ib):=by
 refine h.step ?_ (bJ _ _) λz q u B=>?_
 ·rw[bJe hx];exact c9 _
 ·rw[aE.mp q];rcases ar.mp B with z | z
  ·obtain⟨j,D,e⟩:=aQo z;exact sa.at (by omega) hx e
  ·exact hl u z
theorem Iv.blockA (h:Iv lt T out (la.drop ia++lb.drop ib)) (sa:Sd lt la) (k:Nat) (hl:∀ z∈(la.drop ia).take k,∀ u∈lb.drop ib,lt u z=false):Iv lt T (out++(la.drop ia).take k) (la.drop (ia + k)++lb.drop ib):=by
 have e:la.drop ia=(la.drop ia).take k++la.drop (ia + k):=by rw[<- List.drop_drop];exact(bj k _).symm
 have sd:=sa.drop ia;rw[e] at sd;obtain⟨s1,_,s3⟩:=bf.mp sd;refine h.step ?_ s1 λz j u q=>?_
 ·rw[<- aZ,<- e]
 ·rcases ar.mp q with v | v
  ·exact s3 z j u v
  ·exact hl z j u v
theorem Iv.blockB (h:Iv lt T out (la.drop ia++lb.drop ib)) (sb:Sd lt lb) (k:Nat) (hl:∀ z∈(lb.drop ib).take k,∀ u∈la.drop ia,lt u z=false):Iv lt T (out++(lb.drop ib).take k) (la.drop ia++lb.drop (ib + k)):=by
 have e:lb.drop ib=(lb.drop ib).take k++lb.drop (ib + k):=by rw[<- List.drop_drop];exact(bj k _).symm
 have sd:=sb.drop ib;rw[e] at sd;obtain⟨s1,_,s3⟩:=bf.mp sd;refine h.step ?_ s1 λz j u q=>?_
 ·have e2:la.drop ia++lb.drop ib=la.drop ia++((lb.drop ib).take k++lb.drop (ib + k)):=by rw[<- e]
  rw[e2,<- aZ,<- aZ];exact dQ _ cT
 ·rcases ar.mp q with v | v
  ·exact hl z j u v
  ·exact s3 z j u v
theorem aZt {l:List aI} {i k:Nat} {z:aI} (h:z∈(l.drop i).take k):∃ j,j < k/\l[i + j]?=some z:=by
 obtain⟨j,q,e⟩:=bB h;rw[aQ,bq] at q;rw[f6,f7] at e;exact⟨j,by omega,by rw[af (by omega),e]⟩
end
theorem aZi (a:Array aI) (i j:Nat):(a.extract i j).toList=(a.toList.drop i).take (j - i):=by simp
theorem bJf (a:Array aI) (i:Nat):(a.extract i a.size).toList=a.toList.drop i:=by
 rw[aZi];exact bE (by rw[bq];simp)
end SF
theorem hd {g:Prop} (h:∀ G:Prop,(g->G)->G):g:=h g id
namespace SF
open PySem PyProof.Rows
section
variable {prog:aC} {w:aO} {A:aY} {E:ad->ai->Prop} {s:ai} {κ:eI} {P:aI->Prop} {lt:aI->aI->Bool}
theorem aQc {a:Array aI} {i:Nat} (h:i < a.size):∃ x,a[i]?=some x/\a.toList[i]?=some x:=⟨a[i],by simp[h],by simp[h]⟩
theorem aZ0 {σ α:Type} {M:Model} {c:Prop} {di:Decidable c} {X Y:StateT σ Sem α} {Q:α->σ->Prop} {st:σ} (hc:c) (h:wpS M A E s X Q st):wpS M A E s (@ite _ c di X Y) Q st:=by rw[if_pos hc];exact h
theorem aZ1 {σ α:Type} {M:Model} {c:Prop} {di:Decidable c} {X Y:StateT σ Sem α} {Q:α->σ->Prop} {st:σ} (hc:¬ c) (h:wpS M A E s Y Q st):wpS M A E s (@ite _ c di X Y) Q st:=by rw[if_neg hc];exact h
theorem dXk {σ α:Type} {M:Model} {c:Nat->Prop} {di:∀ n,Decidable (c n)} {X Y:Nat->StateT σ Sem α} {Q:α->σ->Prop} {st:σ} (e:∀ n,X n=Y (n - 1)) (h:∀ m,wpS M A E s (Y m) Q st) (n:Nat):wpS M A E s (@ite _ (c n) (di n) (X n) (Y n)) Q st:=by
 split
 ·rw[e];exact h _
 ·exact h _
theorem eJd (o:Orc prog w A s κ P lt) {st:cH} {a b:Array aI} {Q:Array aI->cH->Prop} (hk:kindOf st=κ) (pa:∀ x∈a.toList,P x) (pb:∀ y∈b.toList,P y) (sa:Sd lt a.toList) (sb:Sd lt b.toList) (na:1<=a.size) (nb:1<=b.size)
  (hfst:∀ y,b.toList[0]?=some y->∀ x∈a.toList,lt x y=false) (hlst:∀ z,a.toList[a.size - 1]?=some z->∀ y∈b.toList,lt z y=false)
  (h:∀ out g,Sd lt out.toList->out.toList.Perm (a.toList++b.toList)->Q out (setG st g)):wpS (aF prog w) A E s (mLo a b) Q st:=by
 have sz:(a.toList++b.toList).length=a.size + b.size:=by simp
 have finA:∀ (out:Array aI) ia ib g,ib=b.size->Iv lt (a.toList++b.toList) out.toList (a.toList.drop ia++b.toList.drop ib)->Q (out++a.extract ia a.size++b.extract ib b.size) (setG st g):=λout ia ib g e iv=>by
  have e0:b.toList.drop ib=[]:=bO (by simp[e])
  rw[e0,ci] at iv
  have:=iv.done (sa.drop ia)
  refine h _ g ?_ ?_ <;> simp only[bL,bJf,e0,ci]
  ·exact this.1
  ·exact this.2
 have finB:∀ (out:Array aI) ia ib g,ia=a.size->Iv lt (a.toList++b.toList) out.toList (a.toList.drop ia++b.toList.drop ib)->Q (out++a.extract ia a.size++b.extract ib b.size) (setG st g):=λout ia ib g e iv=>by
  have e0:a.toList.drop ia=[]:=bO (by simp[e])
  rw[e0,bD] at iv
  have:=iv.done (sb.drop ib)
  refine h _ g ?_ ?_ <;> simp only[bL,bJf,e0,ci]
  ·exact this.1
  ·exact this.2
 have finL:∀ (out:Array aI) ia ib g,ia + 1=a.size->Iv lt (a.toList++b.toList) out.toList (a.toList.drop ia++b.toList.drop ib)->Q (out++b.extract ib b.size++a.extract ia a.size) (setG st g):=λout ia ib g e iv=>by
  obtain⟨z,hz,J⟩:=aQc (a:=a) (i:=ia) (by lia)
  have e0:a.toList.drop ia=[z]:=by rw[bJe J,bO (by simp;lia)]
  have Y:=iv.perm' cT;have hz2:a.toList[a.size - 1]?=some z:=by rw[<- e];exact J
  have:=Y.done (bf.mpr ⟨sb.drop ib,sa.drop ia,λx hx y hy=>by
   rw[e0] at hy;rw[aE.mp hy];exact hlst z hz2 x (cF hx)⟩)
  refine h _ g ?_ ?_ <;> simp only[bL,bJf,aZ]
  ·exact this.1
  ·exact this.2
 have t2:∀ (O:ForInStep (Option (Array aI) × Array aI × Nat × Nat × Nat × Nat × Nat)->cH->Prop) (out:Array aI) (ia ib mg ac bc g:Nat),(∀ r c',Q r (setG st g)->O (.done (some r,c')) (setG st g)) ->
   (∀ D B G ac' bc',B + 1 < a.size->G < b.size->Iv lt (a.toList++b.toList) D.toList (a.toList.drop B++b.toList.drop G)->out.size<=D.size->O (.done (none,D,B,G,mg,ac',bc')) (setG st g)/\O (.yield (none,D,B,G,mg,ac',bc')) (setG st g)) ->
   ia + 1 < a.size->ib < b.size->Iv lt (a.toList++b.toList) out.toList (a.toList.drop ia++b.toList.drop ib)->(∀ x,a.toList[ia]?=some x->∀ u∈b.toList.drop ib,lt u x=false) ->
   wpS (aF prog w) A E s (do
    let x <- dY a ia
    if (ia + 1 + 1 == a.size)=true then pure (bg (some (out.push x++b.extract ib b.size++a.extract (ia + 1) a.size),out.push x,ia + 1,ib,mg,ac,bc))
    else if (decide (ac < 7) && decide (bc < 7))=true then pure (bg (none,out.push x,ia + 1,ib,mg,ac,bc))
    else pure (bn (none,out.push x,ia + 1,ib,mg,ac,bc))) O (setG st g):=by
  intro O out ia ib mg ac bc g hd hg hia hib iv hl;obtain⟨x1,hx1,U⟩:=aQc (a:=a) (i:=ia) (by lia)
  refine au (aZd hx1 ?_);have Y:Iv lt (a.toList++b.toList) (out.push x1).toList (a.toList.drop (ia + 1)++b.toList.drop ib):=by
   rw[b4];exact iv.pushA sa U (hl x1 U)
  have sp:(out.push x1).size=out.size + 1:=dq ..
  by_cases c1:(ia + 1 + 1 == a.size)=true
  ·refine aZ0 c1 ?_;exact aA (hd _ _ (finL _ _ _ g (by simpa using c1) Y))
  ·refine aZ1 c1 ?_;have c1':ia + 1 + 1≠a.size:=by simpa using c1
   have:=hg (out.push x1) (ia + 1) ib ac bc (by lia) hib Y (by lia)
   by_cases c2:(decide (ac < 7) && decide (bc < 7))=true
   ·refine aZ0 c2 ?_;exact aA this.1
   ·refine aZ1 c2 ?_;exact aA this.2
 have t1:∀ (O:ForInStep (Option (Array aI) × Array aI × Nat × Nat × Nat × Nat × Nat)->cH->Prop) (out:Array aI) (ia ib mg ac bc g:Nat),(∀ r c',Q r (setG st g)->O (.done (some r,c')) (setG st g)) ->
   (∀ D B G ac' bc',B + 1 < a.size->G < b.size->Iv lt (a.toList++b.toList) D.toList (a.toList.drop B++b.toList.drop G)->out.size<=D.size->O (.done (none,D,B,G,mg,ac',bc')) (setG st g)/\O (.yield (none,D,B,G,mg,ac',bc')) (setG st g)) ->
   ia + 1 < a.size->ib < b.size->Iv lt (a.toList++b.toList) out.toList (a.toList.drop ia++b.toList.drop ib)->(∀ y,b.toList[ib]?=some y->∀ u∈a.toList.drop ia,lt u y=false) ->
   wpS (aF prog w) A E s (do
    let y <- dY b ib
    if (ib + 1 == b.size)=true then pure (bg (some (out.push y++a.extract ia a.size++b.extract (ib + 1) b.size),out.push y,ia,ib + 1,mg,ac,bc))
    else do
     let x <- dY a ia
     let z <- gal true x b (ib + 1) (b.size - (ib + 1)) 0
     match z with
     | some k1 =>
      if k1 > 0 then
       if (ib + 1 + k1 == b.size)=true then pure (bg (some (out.push y++b.extract (ib + 1) (ib + 1 + k1)++a.extract ia a.size++b.extract (ib + 1 + k1) b.size),out.push y++b.extract (ib + 1) (ib + 1 + k1),ia,ib + 1 + k1,mg,ac,k1))
       else do
        let x <- dY a ia
        if (ia + 1 + 1 == a.size)=true then pure (bg (some ((out.push y++b.extract (ib + 1) (ib + 1 + k1)).push x++b.extract (ib + 1 + k1) b.size++a.extract (ia + 1) a.size),(out.push y++b.extract (ib + 1) (ib + 1 + k1)).push x,ia + 1,ib + 1 + k1,mg,ac,k1))
        else if (decide (ac < 7) && decide (k1 < 7))=true then pure (bg (none,(out.push y++b.extract (ib + 1) (ib + 1 + k1)).push x,ia + 1,ib + 1 + k1,mg,ac,k1))
        else pure (bn (none,(out.push y++b.extract (ib + 1) (ib + 1 + k1)).push x,ia + 1,ib + 1 + k1,mg,ac,k1))
      else do
       let x <- dY a ia
       if (ia + 1 + 1 == a.size)=true then pure (bg (some ((out.push y).push x++b.extract (ib + 1) b.size++a.extract (ia + 1) a.size),(out.push y).push x,ia + 1,ib + 1,mg,ac,k1))
       else if (decide (ac < 7) && decide (k1 < 7))=true then pure (bg (none,(out.push y).push x,ia + 1,ib + 1,mg,ac,k1))
       else pure (bn (none,(out.push y).push x,ia + 1,ib + 1,mg,ac,k1))
     | _=>pure (bg (some (out.push y++a.extract ia a.size++b.extract (ib + 1) b.size),out.push y,ia,ib + 1,mg,ac,bc))) O (setG st g):=by
  intro O out ia ib mg ac bc g hd hg hia hib iv hl;obtain⟨y1,hy1,R⟩:=aQc (a:=b) (i:=ib) hib;obtain⟨x1,hx1,U⟩:=aQc (a:=a) (i:=ia) (by lia)
  have px1:=pa x1 (ak U);refine au (aZd hy1 ?_);have Y:Iv lt (a.toList++b.toList) (out.push y1).toList (a.toList.drop ia++b.toList.drop (ib + 1)):=by
   rw[b4];exact iv.pushB sb R (hl y1 R)
  have sp:(out.push y1).size=out.size + 1:=dq ..
  by_cases c1:(ib + 1 == b.size)=true
  ·refine aZ0 c1 ?_;exact aA (hd _ _ (finA _ _ _ g (by simpa using c1) Y))
  refine aZ1 c1 ?_;have c1':ib + 1≠b.size:=by simpa using c1
  refine au (aZd hx1 (au (bQw o (f:=λi=>b.toList.getD (ib + 1 + i) (.none,.none)) hk px1 (λi hi=>?_) (λi j hij hj hb=>?_) (by lia) λk k1 k2 k3=>?_)))
  ·obtain⟨z,hz,J⟩:=aQc (a:=b) (i:=ib + 1 + i) (by lia)
   rw[ah,J];exact⟨hz,pb z (ak J)⟩
  ·obtain⟨z,hz,J⟩:=aQc (a:=b) (i:=ib + 1 + i) (by lia)
   obtain⟨z',hz',hzl'⟩:=aQc (a:=b) (i:=ib + 1 + j) (by lia)
   rw[ah,hzl'] at hb;rw[ah,J];have hb':lt z' x1=true:=hb;show lt z x1=true;cases e:lt z x1 with
   | true=>rfl
   | false =>
    exfalso;have pz:=pb z (ak J);have pz':=pb z' (ak hzl');rcases Nat.eq_or_lt_of_le hij with rfl | hlt
    ·rw[J] at hzl';cases hzl';rw[e] at hb';cases hb'
    ·have:=o.tr x1 z z' px1 pz pz' e (sb.at (by lia) J hzl')
     rw[hb'] at this;cases this
  have behind:∀ j y,ib + 1 + k<=j->b.toList[j]?=some y->lt y x1=false:=λj y hj hy=>by
   have hjb:j < b.size:=by have:=(aG.mp hy).1;simpa using this
   have:=k3 (j - (ib + 1)) (by lia) (by lia)
   rw[ah,show ib + 1 + (j - (ib + 1))=j by lia,hy] at this
   exact this
  dsimp only
  by_cases ck:k > 0
  ·refine aZ0 ck ?_;have iv3:Iv lt (a.toList++b.toList) (out.push y1++b.extract (ib + 1) (ib + 1 + k)).toList (a.toList.drop ia++b.toList.drop (ib + 1 + k)):=by
    rw[bL,aZi,show ib + 1 + k - (ib + 1)=k by lia]
    refine Y.blockB sb k λz hz u hu=>?_;obtain⟨j,hj,J⟩:=aZt hz;have pz:=pb z (ak J);have hb:=k2 j hj;rw[ah,J] at hb;exact bXd o pa sa pz U (o.as _ _ pz px1 hb) u hu
   have sz3:out.size<=(out.push y1++b.extract (ib + 1) (ib + 1 + k)).size:=by rw[dg];lia
   by_cases c3:(ib + 1 + k == b.size)=true
   ·refine aZ0 c3 ?_;exact aA (hd _ _ (finA _ _ _ g (by simpa using c3) iv3))
   ·refine aZ1 c3 ?_;have c3':ib + 1 + k≠b.size:=by simpa using c3
    refine t2 O _ ia (ib + 1 + k) mg ac k g hd (λo' i1 i2 a1 b1 q1 q2 q3 q4=>hg o' i1 i2 a1 b1 q1 q2 q3 (by lia)) hia (by lia) iv3 λx hx u hu=>?_
    rw[U] at hx;cases hx;obtain⟨j,hj,e⟩:=aQo hu;exact behind j u hj e
  ·refine aZ1 ck ?_;have k0:k=0:=by lia
   refine t2 O _ ia (ib + 1) mg ac k g hd (λo' i1 i2 a1 b1 q1 q2 q3 q4=>hg o' i1 i2 a1 b1 q1 q2 q3 (by lia)) hia (by lia) Y λx hx u hu=>?_
   rw[U] at hx;cases hx;obtain⟨j,hj,e⟩:=aQo hu;exact behind j u (by lia) e
 rw[eJc];refine au (h9 (c7 ⟨rfl,?_⟩));dsimp only;obtain⟨y0,hy0,hy0l⟩:=aQc (a:=b) (i:=0) nb;refine au (aZd hy0 ?_);have iv0:Iv lt (a.toList++b.toList) (#[y0]:Array aI).toList (a.toList.drop 0++b.toList.drop 1):=by
  have i0:Iv lt (a.toList++b.toList) [] (a.toList.drop 0++b.toList.drop 0):=⟨by simp,d6,by simp⟩
  exact i0.pushB sb hy0l λu hu=>hfst y0 hy0l u hu
 have est:st=setG st (gallopOf st):=rfl
 by_cases hb1:(1 == b.size)=true
 ·refine aZ0 hb1 ?_;refine aA ?_;rw[est];exact finA _ 0 1 _ (by simpa using hb1) iv0
 refine aZ1 hb1 ?_
 by_cases ha1:(0 + 1 == a.size)=true
 ·refine aZ0 ha1 ?_;refine aA ?_;rw[est];exact finL _ 0 1 _ (by simpa using ha1) iv0
 refine aZ1 ha1 ?_;have hb2:1 < b.size:=by
  have:1≠b.size:=by simpa using hb1
  lia
 have ha2:0 + 1 < a.size:=by
  have:0 + 1≠a.size:=by simpa using ha1
  lia
 refine au (gS ?_);refine au (cY (bI (I:=λx c L=>∃ out ia ib mg g,c=(none,out,ia,ib,mg)/\L=setG st g/\ia + 1 < a.size/\ib < b.size/\Iv lt (a.toList++b.toList) out.toList (a.toList.drop ia++b.toList.drop ib)/\x + 1<=out.size)
  (Q:=λc L=>∃ r,c.fst=some r/\Q r L) ?_ ?_ ⟨#[y0],0,1,_,_,rfl,est,ha2,hb2,iv0,by simp⟩) ?_)
 ·intro x c L _ hx zq;refine hd λGq kq=>?_;obtain⟨out,ia,ib,mg,g,rfl,rfl,hia,hib,iv,hsz⟩:=zq;refine kq ?_;dsimp only;refine au (cY (bI (I:=λy c L=>∃ D B G ac bc,c=(none,D,B,G,ac,bc)/\L=setG st g/\B + 1 < a.size/\G < b.size/\Iv lt (a.toList++b.toList) D.toList (a.toList.drop B++b.toList.drop G)/\out.size + y<=D.size)
   (Q:=λc L=>L=setG st g/\((∃ r,c.fst=some r/\Q r L)\/∃ D B G ac bc,c=(none,D,B,G,ac,bc)/\B + 1 < a.size/\G < b.size/\Iv lt (a.toList++b.toList) D.toList (a.toList.drop B++b.toList.drop G)/\out.size + 1<=D.size)) ?_ ?_ ⟨out,ia,ib,0,0,rfl,rfl,hia,hib,iv,Nat.le_refl _⟩) ?_)
  ·intro y c L _ hy zq;refine hd λGq kq=>?_;obtain⟨D,B,G,ac,bc,rfl,rfl,Z,N,iv',hsz'⟩:=zq;refine kq ?_;obtain⟨x1,hx1,U⟩:=aQc (a:=a) (i:=B) (by lia)
   obtain⟨y1,hy1,R⟩:=aQc (a:=b) (i:=G) N;have px1:=pa x1 (ak U);have py1:=pb y1 (ak R);dsimp only;refine au (aZd hy1 (au (aZd hx1 (au (cXx o hk py1 px1 ?_)))));dsimp only;cases e:lt y1 x1 with
   | true =>
    refine aZ0 rfl ?_;refine au (aZd hy1 ?_);have Y:Iv lt (a.toList++b.toList) (D.push y1).toList (a.toList.drop B++b.toList.drop (G + 1)):=by
     rw[b4];exact iv'.pushB sb R (bXd o pa sa py1 U (o.as _ _ py1 px1 e))
    have sp:(D.push y1).size=D.size + 1:=dq ..
    by_cases c1:(G + 1 == b.size)=true
    ·refine aZ0 c1 ?_;exact aA ⟨rfl,.inl ⟨_,rfl,finA _ _ _ g (by simpa using c1) Y⟩⟩
    ·refine aZ1 c1 ?_;have c1':G + 1≠b.size:=by simpa using c1
     by_cases c2:bc + 1 >= mg
     ·refine aZ0 c2 ?_;exact aA ⟨rfl,.inr ⟨_,_,_,_,_,rfl,Z,by lia,Y,by lia⟩⟩
     ·refine aZ1 c2 ?_;exact aA ⟨_,_,_,_,_,rfl,rfl,Z,by lia,Y,by lia⟩
   | false =>
    refine aZ1 (by simp) ?_
    refine au (aZd hx1 ?_);have Y:Iv lt (a.toList++b.toList) (D.push x1).toList (a.toList.drop (B + 1)++b.toList.drop G):=by
     rw[b4];exact iv'.pushA sa U (bXd o pb sb px1 R e)
    have sp:(D.push x1).size=D.size + 1:=dq ..
    by_cases c1:(B + 1 + 1 == a.size)=true
    ·refine aZ0 c1 ?_;exact aA ⟨rfl,.inl ⟨_,rfl,finL _ _ _ g (by simpa using c1) Y⟩⟩
    ·refine aZ1 c1 ?_;have c1':B + 1 + 1≠a.size:=by simpa using c1
     by_cases c2:ac + 1 >= mg
     ·refine aZ0 c2 ?_;exact aA ⟨rfl,.inr ⟨_,_,_,_,_,rfl,by lia,N,Y,by lia⟩⟩
     ·refine aZ1 c2 ?_;exact aA ⟨_,_,_,_,_,rfl,rfl,by lia,N,Y,by lia⟩
  ·intro c L zq;refine hd λGq kq=>?_;obtain⟨D,B,G,ac,bc,rfl,rfl,Z,N,iv',hsz'⟩:=zq;refine kq ?_;exact⟨rfl,.inr ⟨_,_,_,_,_,rfl,Z,N,iv',by lia⟩⟩
  ·rintro c L ⟨rfl,⟨r,hr,q⟩ | ⟨out1,ia1,ib1,ac1,bc1,rfl,hia1,hib1,iv1,hsz1⟩⟩
   ·obtain⟨c1,c2⟩:=c;dsimp only at hr;subst hr;exact aA ⟨r,rfl,q⟩
   ·dsimp only;refine au (h9 (c7 ⟨rfl,?_⟩));refine au (cY (bI (I:=λy c L=>∃ D B G mg' ac bc g',c=(none,D,B,G,mg',ac,bc)/\L=setG st g'/\B + 1 < a.size/\G < b.size/\Iv lt (a.toList++b.toList) D.toList (a.toList.drop B++b.toList.drop G)/\out1.size<=D.size)
     (Q:=λc L=>(∃ r,c.fst=some r/\Q r L)\/∃ D B G mg' ac bc g',c=(none,D,B,G,mg',ac,bc)/\L=setG st g'/\B + 1 < a.size/\G < b.size/\Iv lt (a.toList++b.toList) D.toList (a.toList.drop B++b.toList.drop G)/\out1.size<=D.size) ?_ ?_ ⟨out1,ia1,ib1,_,ac1,bc1,g,rfl,rfl,hia1,hib1,iv1,Nat.le_refl _⟩) ?_)
    ·intro y c L _ hy zq;refine hd λGq kq=>?_;obtain⟨D,B,G,mg',ac,bc,g',rfl,rfl,Z,N,iv',hsz'⟩:=zq;refine kq ?_;dsimp only;obtain⟨y1,hy1,R⟩:=aQc (a:=b) (i:=G) N;have py1:=pb y1 (ak R);have fa:∀ i,i < a.size - B->a[B + i]?=some (a.toList.getD (B + i) (.none,.none))/\P (a.toList.getD (B + i) (.none,.none)):=λi hi=>by
      obtain⟨z,hz,J⟩:=aQc (a:=a) (i:=B + i) (by lia)
      rw[ah,J];exact⟨hz,pa z (ak J)⟩
     have mono:∀ i j,i<=j->j < a.size - B->bv lt false y1 (a.toList.getD (B + j) (.none,.none))=true->bv lt false y1 (a.toList.getD (B + i) (.none,.none))=true:=λi j hij hj hb=>by
      obtain⟨z,hz,J⟩:=aQc (a:=a) (i:=B + i) (by lia)
      obtain⟨z',hz',hzl'⟩:=aQc (a:=a) (i:=B + j) (by lia)
      rw[ah,hzl'] at hb;rw[ah,J];have hb':lt y1 z'=false:=by simpa [bv] using hb
      show(!lt y1 z)=true;rcases Nat.eq_or_lt_of_le hij with rfl | hlt
      ·rw[J] at hzl';cases hzl';rw[hb'];rfl
      ·rw[o.tr z z' y1 (pa z (ak J)) (pa z' (ak hzl')) py1 (sa.at (by lia) J hzl') hb'];rfl
     clear kq
     revert mg'
     refine dXk (λ_=>rfl) λm2=>?_;refine au (cI (au (aZd hy1 (au (bQw o (f:=λi=>a.toList.getD (B + i) (.none,.none)) hk py1 fa mono (by lia) λk k1 k2 k3=>?_)))))
     dsimp only;have behind:∀ j z,B + k<=j->a.toList[j]?=some z->lt z y1=false:=λj z hj hz=>by
      have hja:j < a.size:=by have:=(aG.mp hz).1;simpa using this
      have:=k3 (j - B) (by lia) (by lia)
      rw[ah,show B + (j - B)=j by lia,hz] at this
      have h1:(!lt y1 z)=false:=this;exact o.as _ _ py1 (pa z (ak hz)) (by simpa using h1)
     by_cases ck:k > 0
     ·refine aZ0 ck ?_;have iv3:Iv lt (a.toList++b.toList) (D++a.extract B (B + k)).toList (a.toList.drop (B + k)++b.toList.drop G):=by
       rw[bL,aZi,show B + k - B=k by lia]
       refine iv'.blockA sa k λz hz u hu=>?_;obtain⟨j,hj,J⟩:=aZt hz;have hb:=k2 j hj;rw[ah,J] at hb;have h1:(!lt y1 z)=true:=hb;exact bXd o pb sb (pa z (ak J)) R (by simpa using h1) u hu
      have sz3:out1.size<=(D++a.extract B (B + k)).size:=by rw[dg];lia
      by_cases c3:(B + k + 1 == a.size)=true
      ·refine aZ0 c3 ?_;exact aA (.inl ⟨_,rfl,finL _ _ _ _ (by simpa using c3) iv3⟩)
      ·refine aZ1 c3 ?_;have c3':B + k + 1≠a.size:=by simpa using c3
       by_cases c4:(B + k == a.size)=true
       ·refine aZ0 c4 ?_;exact aA (.inl ⟨_,rfl,finB _ _ _ _ (by simpa using c4) iv3⟩)
       ·refine aZ1 c4 ?_;have c4':B + k≠a.size:=by simpa using c4
        refine t1 _ _ (B + k) G m2 k bc m2 (λr c' q=>.inl ⟨r,rfl,q⟩) (λo' i1 i2 a1 b1 q1 q2 q3 q4=>⟨.inr ⟨_,_,_,_,_,_,_,rfl,rfl,q1,q2,q3,by lia⟩,⟨_,_,_,_,_,_,_,rfl,rfl,q1,q2,q3,by lia⟩⟩) (by lia) N iv3 λy hy u hu=>?_
        rw[R] at hy;cases hy;obtain⟨j,hj,e⟩:=aQo hu;exact behind j u hj e
     ·refine aZ1 ck ?_;refine t1 _ _ B G m2 k bc m2 (λr c' q=>.inl ⟨r,rfl,q⟩) (λo' i1 i2 a1 b1 q1 q2 q3 q4=>⟨.inr ⟨_,_,_,_,_,_,_,rfl,rfl,q1,q2,q3,by lia⟩,⟨_,_,_,_,_,_,_,rfl,rfl,q1,q2,q3,by lia⟩⟩) Z N iv' λy hy u hu=>?_
      rw[R] at hy;cases hy;obtain⟨j,hj,e⟩:=aQo hu;exact behind j u (by lia) e
    ·intro c L zq;refine hd λGq kq=>?_;obtain⟨D,B,G,mg',ac,bc,g',rfl,rfl,Z,N,iv',hsz'⟩:=zq;refine kq ?_;exact .inr ⟨_,_,_,_,_,_,_,rfl,rfl,Z,N,iv',hsz'⟩
    ·rintro c L (⟨r,hr,q⟩ | ⟨D,B,G,mg',ac,bc,g',rfl,rfl,Z,N,iv',hsz'⟩)
     ·obtain⟨c1,c2⟩:=c;dsimp only at hr;subst hr;exact aA ⟨r,rfl,q⟩
     ·dsimp only;exact au (cI (aA ⟨_,_,_,_,_,rfl,rfl,Z,N,iv',by lia⟩))
 ·intro c L zq;refine hd λGq kq=>?_;obtain⟨out,ia,ib,mg,g,rfl,rfl,hia,hib,iv,hsz⟩:=zq;refine kq ?_;exfalso
  have:=iv.size
  rw[sz,aK] at this;lia
 ·rintro c L ⟨r,hr,q⟩;obtain⟨c1,c2⟩:=c;dsimp only at hr;subst hr;exact aA q
end
theorem eJe (a b:Array aI):mHi a b=(do
 rule "list.sort.merge-hi"
 let total:=a.size + b.size
 let fin (o:Array aI) (na nb:Nat):=a.extract 0 na++b.extract 0 nb++o.reverse
 let fst (o:Array aI) (na nb:Nat):=b.extract 0 nb++a.extract 0 na++o.reverse
 let mut na:=a.size - 1
 let mut nb:=b.size
 let mut out:Array aI:=#[<- dY a na]
 if na == 0 then return fin out na nb
 if nb == 1 then return fst out na nb
 let mut minGallop:=gallopOf (<- get)
 for _ in [0:total] do
  let mut acount:=0
  let mut bcount:=0
  for _ in [0:total] do
   let some aw <- lt' (<- dY b (nb - 1)) (<- dY a (na - 1)) | return fin out na nb
   if aw then
    na:=na - 1
    out:=out.push (<- dY a na)
    acount:=acount + 1
    bcount:=0
    if na == 0 then return fin out na nb
    if acount >= minGallop then break
   else
    nb:=nb - 1
    out:=out.push (<- dY b nb)
    bcount:=bcount + 1
    acount:=0
    if nb == 1 then return fst out na nb
    if bcount >= minGallop then break
  rule "list.sort.gallop"
  minGallop:=minGallop + 1
  for _ in [0:total] do
   if minGallop > 1 then minGallop:=minGallop - 1
   modify (λs=>setG s minGallop)
   let some p <- gal false (<- dY b (nb - 1)) a 0 na (na - 1) | return fin out na nb
   let k:=na - p
   acount:=k
   if k > 0 then
    out:=out++(a.extract p na).reverse
    na:=p
    if na == 0 then return fin out na nb
   nb:=nb - 1
   out:=out.push (<- dY b nb)
   if nb == 1 then return fst out na nb
   let some p <- gal true (<- dY a (na - 1)) b 0 nb (nb - 1) | return fin out na nb
   let k:=nb - p
   bcount:=k
   if k > 0 then
    out:=out++(b.extract p nb).reverse
    nb:=p
    if nb == 1 then return fst out na nb
    if nb == 0 then return fin out na nb
   na:=na - 1
   out:=out.push (<- dY a na)
   if na == 0 then return fin out na nb
   if acount < 7 && bcount < 7 then break
  minGallop:=minGallop + 1
  modify (λs=>setG s minGallop)
 eM "internal:list.sort.merge-bound"):=rfl
section
variable {α:Type} {lt:α->α->Bool} {T out rest:List α}
abbrev rl (lt:α->α->Bool):α->α->Bool:=λx y=>lt y x
theorem Iv.doneR (h:Iv (rl lt) T out rest) {l:List α} (hp:l.Perm rest) (hs:Sd lt l):Sd lt (l++out.reverse)/\(l++out.reverse).Perm T:=by
 refine⟨bf.mpr ⟨hs,gn.mpr h.sd,λx q y j=>h.lo y (iU.mp j) x (hp.mem_iff.mp q)⟩,?_⟩;exact(ju.append hp (ir out)).trans (cT.trans h.perm)
theorem bJg {l:List α} {i:Nat} {x:α} (h:l[i]?=some x):l.take (i + 1)=l.take i++[x]:=by rw[dH,h];rfl
theorem Sd.take {l:List α} (h:Sd lt l) (i:Nat):Sd lt (l.take i):=h.sublist (fU _ _)
theorem aQs {l:List α} {i:Nat} {y:α} (h:y∈l.take i):∃ j,j < i/\l[j]?=some y:=by
 obtain⟨k,q,e⟩:=bB h;rw[aQ] at q;rw[f6] at e;exact⟨k,by lia,by rw[af (by lia),e]⟩
end
section
variable {prog:aC} {w:aO} {A:aY} {s:ai} {κ:eI} {P:aI->Prop} {lt:aI->aI->Bool} {T out la lb:List aI} {na nb:Nat} {x y:aI}
theorem bXe (o:Orc prog w A s κ P lt) {l:List aI} (hP:∀ z∈l,P z) (hs:Sd lt l) {i:Nat} {z:aI} (hz:P z) {y:aI} (hy:l[i]?=some y) (h:lt z y=false):∀ u∈l.take (i + 1),lt z u=false:=λu B=>by
 obtain⟨j,D,e⟩:=aQs B;rcases Nat.eq_or_lt_of_le (Nat.le_of_lt_succ D) with rfl | q
 ·rw[hy] at e;cases e;exact h
 ·exact o.tr u y z (hP u (ak e)) (hP y (ak hy)) hz (hs.at q e hy) h
theorem Iv.popA (h:Iv (rl lt) T out (la.take (na + 1)++lb.take nb)) (sa:Sd lt la) (hx:la[na]?=some x) (hl:∀ u∈lb.take nb,lt x u=false):Iv (rl lt) T (out++[x]) (la.take na++lb.take nb):=by
 refine h.step ?_ (bJ _ _) λz q u B=>?_
 ·rw[bJg hx,aZ];exact fm
 ·rw[aE.mp q];rcases ar.mp B with v | v
  ·obtain⟨j,D,e⟩:=aQs v;exact sa.at D e hx
  ·exact hl u v
theorem Iv.popB (h:Iv (rl lt) T out (la.take na++lb.take (nb + 1))) (sb:Sd lt lb) (hy:lb[nb]?=some y) (hl:∀ u∈la.take na,lt y u=false):Iv (rl lt) T (out++[y]) (la.take na++lb.take nb):=by
 refine h.step ?_ (bJ _ _) λz q u B=>?_
 ·rw[bJg hy,<- aZ];exact cT
 ·rw[aE.mp q];rcases ar.mp B with v | v
  ·exact hl u v
  ·obtain⟨j,D,e⟩:=aQs v;exact sb.at D e hy
theorem cXy (l:List aI) {p n:Nat} (h:p<=n):l.take n=l.take p++(l.drop p).take (n - p):=by
 have:n=p + (n - p):=by lia
 rw[this,List.take_add];simp
theorem Iv.backA (h:Iv (rl lt) T out (la.take na++lb.take nb)) (sa:Sd lt la) {p:Nat} (hp:p<=na) (hl:∀ z∈(la.drop p).take (na - p),∀ u∈lb.take nb,lt z u=false):Iv (rl lt) T (out++((la.drop p).take (na - p)).reverse) (la.take p++lb.take nb):=by
 have e:=cXy la hp;have sd:=sa.take na;rw[e] at sd;obtain⟨_,s2,s3⟩:=bf.mp sd;refine h.step ?_ (gn.mpr s2) λz j u q=>?_
 ·rw[e,aZ];refine(List.perm_append_comm_assoc _ _ _).trans ?_;exact dQ _ (ir _).symm
 ·have j:=iU.mp j;rcases ar.mp q with v | v
  ·exact s3 u v z j
  ·exact hl z j u v
theorem Iv.backB (h:Iv (rl lt) T out (la.take na++lb.take nb)) (sb:Sd lt lb) {p:Nat} (hp:p<=nb) (hl:∀ z∈(lb.drop p).take (nb - p),∀ u∈la.take na,lt z u=false):Iv (rl lt) T (out++((lb.drop p).take (nb - p)).reverse) (la.take na++lb.take p):=by
 have e:=cXy lb hp;have sd:=sb.take nb;rw[e] at sd;obtain⟨_,s2,s3⟩:=bf.mp sd;refine h.step ?_ (gn.mpr s2) λz j u q=>?_
 ·rw[e,<- aZ];refine cT.trans ?_;exact dQ _ (ir _).symm
 ·have j:=iU.mp j;rcases ar.mp q with v | v
  ·exact hl z j u v
  ·exact s3 u v z j
end
theorem dXl (a:Array aI) (n:Nat):(a.extract 0 n).toList=a.toList.take n:=by rw[aZi];simp
section
variable {prog:aC} {w:aO} {A:aY} {E:ad->ai->Prop} {s:ai} {κ:eI} {P:aI->Prop} {lt:aI->aI->Bool}
theorem eJf (o:Orc prog w A s κ P lt) {st:cH} {a b:Array aI} {Q:Array aI->cH->Prop} (hk:kindOf st=κ) (pa:∀ x∈a.toList,P x) (pb:∀ y∈b.toList,P y) (sa:Sd lt a.toList) (sb:Sd lt b.toList) (na0:1<=a.size) (nb0:1<=b.size)
  (hfst:∀ y,b.toList[0]?=some y->∀ x∈a.toList,lt x y=false) (hlst:∀ z,a.toList[a.size - 1]?=some z->∀ y∈b.toList,lt z y=false)
  (h:∀ out g,Sd lt out.toList->out.toList.Perm (a.toList++b.toList)->Q out (setG st g)):wpS (aF prog w) A E s (mHi a b) Q st:=by
 have sz:(a.toList++b.toList).length=a.size + b.size:=by simp
 have finG:∀ (out:Array aI) na nb g,Sd lt (a.toList.take na++b.toList.take nb)->Iv (rl lt) (a.toList++b.toList) out.toList (a.toList.take na++b.toList.take nb)->Q (a.extract 0 na++b.extract 0 nb++out.reverse) (setG st g):=λout na nb g e iv=>by
  have:=iv.doneR (c9 _) e
  refine h _ g ?_ ?_ <;> simp only[bL,fg,dXl]
  ·exact this.1
  ·exact this.2
 have finF:∀ (out:Array aI) na nb g,nb=1->Iv (rl lt) (a.toList++b.toList) out.toList (a.toList.take na++b.toList.take nb)->Q (b.extract 0 nb++a.extract 0 na++out.reverse) (setG st g):=λout na nb g e iv=>by
  obtain⟨y0,hy0,hy0l⟩:=aQc (a:=b) (i:=0) nb0;have e1:b.toList.take nb=[y0]:=by rw[e];exact(bJg (i:=0) hy0l)
  have sd:Sd lt (b.toList.take nb++a.toList.take na):=by
   rw[e1];exact aW.mpr ⟨λu hu=>hfst y0 hy0l u (b5 hu),sa.take na⟩
  have:=iv.doneR cT sd
  refine h _ g ?_ ?_ <;> simp only[bL,fg,dXl]
  ·exact this.1
  ·exact this.2
 have t2:∀ (L:ForInStep (Option (Array aI) × Nat × Nat × Array aI × Nat × Nat × Nat)->cH->Prop) (out:Array aI) (na nb mg ac Y g:Nat),(∀ r c',Q r (setG st g)->L (.done (some r,c')) (setG st g)) ->
   (∀ na' D B ac' bc',1<=na'->(na'<=a.size/\2<=D/\D<=b.size)->Iv (rl lt) (a.toList++b.toList) B.toList (a.toList.take na'++b.toList.take D)->out.size<=B.size->L (.done (none,na',D,B,mg,ac',bc')) (setG st g)/\L (.yield (none,na',D,B,mg,ac',bc')) (setG st g)) ->
   1<=na->na<=a.size->(2<=nb/\nb<=b.size)->Iv (rl lt) (a.toList++b.toList) out.toList (a.toList.take na++b.toList.take nb)->(∀ x,a.toList[na - 1]?=some x->∀ u∈b.toList.take nb,lt x u=false) ->
   wpS (aF prog w) A E s (do
    let x <- dY a (na - 1)
    if (na - 1 == 0)=true then pure (bg (some (a.extract 0 (na - 1)++b.extract 0 nb++((out).push x).reverse),na - 1,nb,(out).push x,mg,ac,Y))
    else if (decide (ac < 7) && decide (Y < 7))=true then pure (bg (none,na - 1,nb,(out).push x,mg,ac,Y))
    else pure (bn (none,na - 1,nb,(out).push x,mg,ac,Y))) L (setG st g):=by
  intro L out na nb mg ac Y g hd hg hna hla hnb iv hl;obtain⟨m,rfl⟩:∃ m,na=m + 1:=⟨na - 1,by lia⟩
  simp only[Nat.add_sub_cancel] at hl ⊢;obtain⟨x1,hx1,O⟩:=aQc (a:=a) (i:=m) (by lia)
  refine au (aZd hx1 ?_);have U:Iv (rl lt) (a.toList++b.toList) (out.push x1).toList (a.toList.take m++b.toList.take nb):=by
   rw[b4];exact iv.popA sa O (hl x1 O)
  have sp:(out.push x1).size=out.size + 1:=dq ..
  by_cases c1:(m == 0)=true
  ·have m0:m=0:=by simpa using c1
   refine aZ0 c1 ?_;refine aA (hd _ _ (finG _ _ _ g ?_ U));rw[m0];exact sb.take _
  ·refine aZ1 c1 ?_;have c1':m≠0:=by simpa using c1
   have:=hg m nb (out.push x1) ac Y (by lia) ⟨by lia,hnb⟩ U (by lia)
   by_cases c2:(decide (ac < 7) && decide (Y < 7))=true
   ·refine aZ0 c2 ?_;exact aA this.1
   ·refine aZ1 c2 ?_;exact aA this.2
 have t1:∀ (L:ForInStep (Option (Array aI) × Nat × Nat × Array aI × Nat × Nat × Nat)->cH->Prop) (out:Array aI) (na nb mg ac Y g:Nat),(∀ r c',Q r (setG st g)->L (.done (some r,c')) (setG st g)) ->
   (∀ na' D B ac' bc',1<=na'->(na'<=a.size/\2<=D/\D<=b.size)->Iv (rl lt) (a.toList++b.toList) B.toList (a.toList.take na'++b.toList.take D)->out.size<=B.size->L (.done (none,na',D,B,mg,ac',bc')) (setG st g)/\L (.yield (none,na',D,B,mg,ac',bc')) (setG st g)) ->
   1<=na->na<=a.size->(2<=nb/\nb<=b.size)->Iv (rl lt) (a.toList++b.toList) out.toList (a.toList.take na++b.toList.take nb)->(∀ y,b.toList[nb - 1]?=some y->∀ u∈a.toList.take na,lt y u=false) ->
   wpS (aF prog w) A E s (do
    let y <- dY b (nb - 1)
    if (nb - 1 == 1)=true then pure (bg (some (b.extract 0 (nb - 1)++a.extract 0 na++(out.push y).reverse),na,nb - 1,out.push y,mg,ac,Y))
    else do
     let x <- dY a (na - 1)
     let z <- gal true x b 0 (nb - 1) (nb - 1 - 1)
     match z with
     | some R =>
      if nb - 1 - R > 0 then
       if (R == 1)=true then pure (bg (some (b.extract 0 R++a.extract 0 na++(out.push y++(b.extract R (nb - 1)).reverse).reverse),na,R,out.push y++(b.extract R (nb - 1)).reverse,mg,ac,nb - 1 - R))
       else if (R == 0)=true then pure (bg (some (a.extract 0 na++b.extract 0 R++(out.push y++(b.extract R (nb - 1)).reverse).reverse),na,R,out.push y++(b.extract R (nb - 1)).reverse,mg,ac,nb - 1 - R))
       else do
        let x <- dY a (na - 1)
        if (na - 1 == 0)=true then pure (bg (some (a.extract 0 (na - 1)++b.extract 0 R++((out.push y++(b.extract R (nb - 1)).reverse).push x).reverse),na - 1,R,(out.push y++(b.extract R (nb - 1)).reverse).push x,mg,ac,(nb - 1 - R)))
        else if (decide (ac < 7) && decide ((nb - 1 - R) < 7))=true then pure (bg (none,na - 1,R,(out.push y++(b.extract R (nb - 1)).reverse).push x,mg,ac,(nb - 1 - R)))
        else pure (bn (none,na - 1,R,(out.push y++(b.extract R (nb - 1)).reverse).push x,mg,ac,(nb - 1 - R)))
      else do
       let x <- dY a (na - 1)
       if (na - 1 == 0)=true then pure (bg (some (a.extract 0 (na - 1)++b.extract 0 (nb - 1)++((out.push y).push x).reverse),na - 1,(nb - 1),(out.push y).push x,mg,ac,(nb - 1 - R)))
       else if (decide (ac < 7) && decide ((nb - 1 - R) < 7))=true then pure (bg (none,na - 1,(nb - 1),(out.push y).push x,mg,ac,(nb - 1 - R)))
       else pure (bn (none,na - 1,(nb - 1),(out.push y).push x,mg,ac,(nb - 1 - R)))
     | _=>pure (bg (some (a.extract 0 na++b.extract 0 (nb - 1)++(out.push y).reverse),na,nb - 1,out.push y,mg,ac,Y))) L (setG st g):=by
  intro L out na nb mg ac Y g hd hg hna hla hnb iv hl;obtain⟨m,rfl⟩:∃ m,nb=m + 1:=⟨nb - 1,by lia⟩
  simp only[Nat.add_sub_cancel] at hl ⊢;obtain⟨y1,hy1,N⟩:=aQc (a:=b) (i:=m) (by lia)
  obtain⟨x1,hx1,O⟩:=aQc (a:=a) (i:=na - 1) (by lia)
  have px1:=pa x1 (ak O);refine au (aZd hy1 ?_);have U:Iv (rl lt) (a.toList++b.toList) (out.push y1).toList (a.toList.take na++b.toList.take m):=by
   rw[b4];exact iv.popB sb N (hl y1 N)
  have sp:(out.push y1).size=out.size + 1:=dq ..
  by_cases c1:(m == 1)=true
  ·refine aZ0 c1 ?_;exact aA (hd _ _ (finF _ _ _ g (by simpa using c1) U))
  refine aZ1 c1 ?_;have c1':m≠1:=by simpa using c1
  refine au (aZd hx1 (au (bQw o (f:=λi=>b.toList.getD (0 + i) (.none,.none)) hk px1 (λi hi=>?_) (λi j hij hj hb=>?_) (by lia) λk k1 k2 k3=>?_)))
  ·obtain⟨z,hz,J⟩:=aQc (a:=b) (i:=0 + i) (by lia)
   rw[ah,J];exact⟨hz,pb z (ak J)⟩
  ·obtain⟨z,hz,J⟩:=aQc (a:=b) (i:=0 + i) (by lia)
   obtain⟨z',hz',hzl'⟩:=aQc (a:=b) (i:=0 + j) (by lia)
   rw[ah,hzl'] at hb;rw[ah,J];have hb':lt z' x1=true:=hb;show lt z x1=true;cases e:lt z x1 with
   | true=>rfl
   | false =>
    exfalso;have pz:=pb z (ak J);have pz':=pb z' (ak hzl');rcases Nat.eq_or_lt_of_le hij with rfl | hlt
    ·rw[J] at hzl';cases hzl';rw[e] at hb';cases hb'
    ·have:=o.tr x1 z z' px1 pz pz' e (sb.at (by lia) J hzl')
     rw[hb'] at this;cases this
  have ahead:∀ u∈b.toList.take k,lt x1 u=false:=λu hu=>by
   obtain⟨j,hj,e⟩:=aQs hu
   have:=k2 j hj
   rw[ah,Nat.zero_add,e] at this;exact o.as _ _ (pb u (ak e)) px1 this
  dsimp only
  by_cases ck:m - k > 0
  ·refine aZ0 ck ?_;have iv3:Iv (rl lt) (a.toList++b.toList) (out.push y1++(b.extract k m).reverse).toList (a.toList.take na++b.toList.take k):=by
    rw[bL,fg,aZi];refine U.backB sb k1 λz hz u hu=>?_;obtain⟨j,hj,J⟩:=aZt hz;have pz:=pb z (ak J);have hb:=k3 (k + j) (by lia) (by lia)
    rw[ah,Nat.zero_add,J] at hb
    have:=bXe o pa sa pz O hb
    rw[show na - 1 + 1=na by lia] at this
    exact this u hu
   have sz3:out.size<=(out.push y1++(b.extract k m).reverse).size:=by rw[dg];lia
   by_cases c3:(k == 1)=true
   ·refine aZ0 c3 ?_;exact aA (hd _ _ (finF _ _ _ g (by simpa using c3) iv3))
   ·refine aZ1 c3 ?_;have c3':k≠1:=by simpa using c3
    by_cases c4:(k == 0)=true
    ·have k0:k=0:=by simpa using c4
     refine aZ0 c4 ?_;refine aA (hd _ _ (finG _ _ _ g ?_ iv3));rw[k0,List.take_zero,ci];exact sa.take _
    ·refine aZ1 c4 ?_;have c4':k≠0:=by simpa using c4
     refine t2 L _ na k mg ac (m - k) g hd (λn1 n2 o' a1 b1 q1 q2 q3 q4=>hg n1 n2 o' a1 b1 q1 q2 q3 (by lia)) hna hla ⟨by lia,by lia⟩ iv3 λx hx u hu=>?_
     rw[O] at hx;cases hx;exact ahead u hu
  ·refine aZ1 ck ?_;have ek:k=m:=by lia
   refine t2 L _ na m mg ac (m - k) g hd (λn1 n2 o' a1 b1 q1 q2 q3 q4=>hg n1 n2 o' a1 b1 q1 q2 q3 (by lia)) hna hla ⟨by lia,by lia⟩ U λx hx u hu=>?_
   rw[O] at hx;cases hx;exact ahead u (by rw[ek];exact hu)
 rw[eJe];refine au (h9 (c7 ⟨rfl,?_⟩));dsimp only;obtain⟨x0,hx0,hx0l⟩:=aQc (a:=a) (i:=a.size - 1) (by lia)
 refine au (aZd hx0 ?_);have iv0:Iv (rl lt) (a.toList++b.toList) (#[x0]:Array aI).toList (a.toList.take (a.size - 1)++b.toList.take b.size):=by
  have e1:a.toList.take (a.size - 1 + 1)=a.toList:=bE (by simp;lia)
  have e2:b.toList.take b.size=b.toList:=bE (by simp)
  have i0:Iv (rl lt) (a.toList++b.toList) [] (a.toList.take (a.size - 1 + 1)++b.toList.take b.size):=⟨by rw[e1,e2];exact c9 _,d6,by simp⟩
  exact i0.popA sa hx0l λu hu=>hlst x0 hx0l u (b5 hu)
 have est:st=setG st (gallopOf st):=rfl
 by_cases ha1:(a.size - 1 == 0)=true
 ·refine aZ0 ha1 ?_;have a0:a.size - 1=0:=by simpa using ha1
  refine aA ?_;rw[est];refine finG _ _ _ _ ?_ iv0;rw[a0];exact sb.take _
 refine aZ1 ha1 ?_
 by_cases hb1:(b.size == 1)=true
 ·refine aZ0 hb1 ?_;refine aA ?_;rw[est];exact finF _ _ _ _ (by simpa using hb1) iv0
 refine aZ1 hb1 ?_;have hb2:2<=b.size:=by
  have:b.size≠1:=by simpa using hb1
  lia
 have ha2:1<=a.size - 1:=by
  have:a.size - 1≠0:=by simpa using ha1
  lia
 refine au (gS ?_);refine au (cY (bI (I:=λx c G=>∃ na nb out mg g,c=(none,na,nb,out,mg)/\G=setG st g/\1<=na/\na<=a.size/\(2<=nb/\nb<=b.size)/\Iv (rl lt) (a.toList++b.toList) out.toList (a.toList.take na++b.toList.take nb)/\x + 1<=out.size)
  (Q:=λc G=>∃ r,c.fst=some r/\Q r G) ?_ ?_ ⟨_,_,#[x0],_,_,rfl,est,ha2,by lia,⟨hb2,Nat.le_refl _⟩,iv0,by simp⟩) ?_)
 ·intro x c G _ hx zq;refine hd λGq kq=>?_;obtain⟨na,nb,out,mg,g,rfl,rfl,hna,hla,hnb,iv,hsz⟩:=zq;refine kq ?_;dsimp only;refine au (cY (bI (I:=λy c G=>∃ na' D B ac Y,c=(none,na',D,B,ac,Y)/\G=setG st g/\1<=na'/\na'<=a.size/\(2<=D/\D<=b.size)/\Iv (rl lt) (a.toList++b.toList) B.toList (a.toList.take na'++b.toList.take D)/\out.size + y<=B.size)
   (Q:=λc G=>G=setG st g/\((∃ r,c.fst=some r/\Q r G)\/∃ na' D B ac Y,c=(none,na',D,B,ac,Y)/\1<=na'/\na'<=a.size/\(2<=D/\D<=b.size)/\Iv (rl lt) (a.toList++b.toList) B.toList (a.toList.take na'++b.toList.take D)/\out.size + 1<=B.size)) ?_ ?_ ⟨na,nb,out,0,0,rfl,rfl,hna,hla,hnb,iv,Nat.le_refl _⟩) ?_)
  ·intro y c G _ hy zq;refine hd λGq kq=>?_;obtain⟨na',D,B,ac,Y,rfl,rfl,Z,hla',hnb',iv',hsz'⟩:=zq;refine kq ?_;obtain⟨ma,rfl⟩:∃ m,na'=m + 1:=⟨na' - 1,by lia⟩
   obtain⟨mb,rfl⟩:∃ m,D=m + 1:=⟨D - 1,by lia⟩
   obtain⟨x1,hx1,O⟩:=aQc (a:=a) (i:=ma) (by lia)
   obtain⟨y1,hy1,N⟩:=aQc (a:=b) (i:=mb) (by lia)
   have px1:=pa x1 (ak O);have py1:=pb y1 (ak N);dsimp only;simp only[Nat.add_sub_cancel];refine au (aZd hy1 (au (aZd hx1 (au (cXx o hk py1 px1 ?_)))));dsimp only;cases e:lt y1 x1 with
   | true =>
    refine aZ0 rfl ?_;refine au (aZd hx1 ?_);have U:Iv (rl lt) (a.toList++b.toList) (B.push x1).toList (a.toList.take ma++b.toList.take (mb + 1)):=by
     rw[b4];exact iv'.popA sa O (bXe o pb sb px1 N (o.as _ _ py1 px1 e))
    have sp:(B.push x1).size=B.size + 1:=dq ..
    by_cases c1:(ma == 0)=true
    ·have m0:ma=0:=by simpa using c1
     refine aZ0 c1 ?_;refine aA ⟨rfl,.inl ⟨_,rfl,finG _ _ _ g ?_ U⟩⟩;rw[m0];exact sb.take _
    ·refine aZ1 c1 ?_;have c1':ma≠0:=by simpa using c1
     by_cases c2:ac + 1 >= mg
     ·refine aZ0 c2 ?_;exact aA ⟨rfl,.inr ⟨_,_,_,_,_,rfl,by lia,by lia,hnb',U,by lia⟩⟩
     ·refine aZ1 c2 ?_;exact aA ⟨_,_,_,_,_,rfl,rfl,by lia,by lia,hnb',U,by lia⟩
   | false =>
    refine aZ1 (by simp) ?_
    refine au (aZd hy1 ?_);have U:Iv (rl lt) (a.toList++b.toList) (B.push y1).toList (a.toList.take (ma + 1)++b.toList.take mb):=by
     rw[b4];exact iv'.popB sb N (bXe o pa sa py1 O e)
    have sp:(B.push y1).size=B.size + 1:=dq ..
    by_cases c1:(mb == 1)=true
    ·refine aZ0 c1 ?_;exact aA ⟨rfl,.inl ⟨_,rfl,finF _ _ _ g (by simpa using c1) U⟩⟩
    ·refine aZ1 c1 ?_;have c1':mb≠1:=by simpa using c1
     by_cases c2:Y + 1 >= mg
     ·refine aZ0 c2 ?_;exact aA ⟨rfl,.inr ⟨_,_,_,_,_,rfl,by lia,by lia,⟨by lia,by lia⟩,U,by lia⟩⟩
     ·refine aZ1 c2 ?_;exact aA ⟨_,_,_,_,_,rfl,rfl,by lia,by lia,⟨by lia,by lia⟩,U,by lia⟩
  ·intro c G zq;refine hd λGq kq=>?_;obtain⟨na',D,B,ac,Y,rfl,rfl,Z,hla',hnb',iv',hsz'⟩:=zq;refine kq ?_;exact⟨rfl,.inr ⟨_,_,_,_,_,rfl,Z,hla',hnb',iv',by lia⟩⟩
  ·rintro c G ⟨rfl,⟨r,hr,q⟩ | ⟨na1,nb1,out1,ac1,bc1,rfl,hna1,hla1,hnb1,iv1,hsz1⟩⟩
   ·obtain⟨c1,c2⟩:=c;dsimp only at hr;subst hr;exact aA ⟨r,rfl,q⟩
   ·dsimp only;refine au (h9 (c7 ⟨rfl,?_⟩));refine au (cY (bI (I:=λy c G=>∃ na' D B mg' ac Y g',c=(none,na',D,B,mg',ac,Y)/\G=setG st g'/\1<=na'/\(na'<=a.size/\2<=D/\D<=b.size)/\Iv (rl lt) (a.toList++b.toList) B.toList (a.toList.take na'++b.toList.take D)/\out1.size<=B.size)
     (Q:=λc G=>(∃ r,c.fst=some r/\Q r G)\/∃ na' D B mg' ac Y g',c=(none,na',D,B,mg',ac,Y)/\G=setG st g'/\1<=na'/\(na'<=a.size/\2<=D/\D<=b.size)/\Iv (rl lt) (a.toList++b.toList) B.toList (a.toList.take na'++b.toList.take D)/\out1.size<=B.size) ?_ ?_ ⟨na1,nb1,out1,_,ac1,bc1,g,rfl,rfl,hna1,⟨hla1,hnb1⟩,iv1,Nat.le_refl _⟩) ?_)
    ·intro y c G _ hy zq;refine hd λGq kq=>?_;obtain⟨na',D,B,mg',ac,Y,g',rfl,rfl,Z,⟨hla',hnb'⟩,iv',hsz'⟩:=zq;refine kq ?_;dsimp only;obtain⟨y1,hy1,N⟩:=aQc (a:=b) (i:=D - 1) (by lia)
     have py1:=pb y1 (ak N);have fa:∀ i,i < na'->a[0 + i]?=some (a.toList.getD (0 + i) (.none,.none))/\P (a.toList.getD (0 + i) (.none,.none)):=λi hi=>by
      obtain⟨z,hz,J⟩:=aQc (a:=a) (i:=0 + i) (by lia)
      rw[ah,J];exact⟨hz,pa z (ak J)⟩
     have mono:∀ i j,i<=j->j < na'->bv lt false y1 (a.toList.getD (0 + j) (.none,.none))=true->bv lt false y1 (a.toList.getD (0 + i) (.none,.none))=true:=λi j hij hj hb=>by
      obtain⟨z,hz,J⟩:=aQc (a:=a) (i:=0 + i) (by lia)
      obtain⟨z',hz',hzl'⟩:=aQc (a:=a) (i:=0 + j) (by lia)
      rw[ah,hzl'] at hb;rw[ah,J];have hb':lt y1 z'=false:=by simpa [bv] using hb
      show(!lt y1 z)=true;rcases Nat.eq_or_lt_of_le hij with rfl | hlt
      ·rw[J] at hzl';cases hzl';rw[hb'];rfl
      ·rw[o.tr z z' y1 (pa z (ak J)) (pa z' (ak hzl')) py1 (sa.at (by lia) J hzl') hb'];rfl
     clear kq
     revert mg'
     refine dXk (λ_=>rfl) λm2=>?_;refine au (cI (au (aZd hy1 (au (bQw o (f:=λi=>a.toList.getD (0 + i) (.none,.none)) hk py1 fa mono (by lia) λk k1 k2 k3=>?_)))))
     dsimp only;have ahead:∀ u∈a.toList.take k,lt y1 u=false:=λu hu=>by
      obtain⟨j,hj,e⟩:=aQs hu
      have:=k2 j hj
      rw[ah,Nat.zero_add,e] at this;have h1:(!lt y1 u)=true:=this;simpa using h1
     by_cases ck:na' - k > 0
     ·refine aZ0 ck ?_;have iv3:Iv (rl lt) (a.toList++b.toList) (B++(a.extract k na').reverse).toList (a.toList.take k++b.toList.take D):=by
       rw[bL,fg,aZi];refine iv'.backA sa k1 λz hz u hu=>?_;obtain⟨j,hj,J⟩:=aZt hz;have hb:=k3 (k + j) (by lia) (by lia)
       rw[ah,Nat.zero_add,J] at hb;have h1:(!lt y1 z)=false:=hb;have pz:=pa z (ak J)
       have:=bXe o pb sb pz N (o.as _ _ py1 pz (by simpa using h1))
       rw[show D - 1 + 1=D by lia] at this
       exact this u hu
      have sz3:out1.size<=(B++(a.extract k na').reverse).size:=by rw[dg];lia
      by_cases c3:(k == 0)=true
      ·have k0:k=0:=by simpa using c3
       refine aZ0 c3 ?_;refine aA (.inl ⟨_,rfl,finG _ _ _ _ ?_ iv3⟩);rw[k0];exact sb.take _
      ·refine aZ1 c3 ?_;have c3':k≠0:=by simpa using c3
       refine t1 _ _ k D m2 (na' - k) Y m2 (λr c' q=>.inl ⟨r,rfl,q⟩) (λn1 n2 o' a1 b1 q1 q2 q3 q4=>⟨.inr ⟨_,_,_,_,_,_,_,rfl,rfl,q1,q2,q3,by lia⟩,⟨_,_,_,_,_,_,_,rfl,rfl,q1,q2,q3,by lia⟩⟩) (by lia) (by lia) hnb' iv3 λy hy u hu=>?_
       rw[N] at hy;cases hy;exact ahead u hu
     ·refine aZ1 ck ?_;have ek:k=na':=by lia
      refine t1 _ _ na' D m2 (na' - k) Y m2 (λr c' q=>.inl ⟨r,rfl,q⟩) (λn1 n2 o' a1 b1 q1 q2 q3 q4=>⟨.inr ⟨_,_,_,_,_,_,_,rfl,rfl,q1,q2,q3,by lia⟩,⟨_,_,_,_,_,_,_,rfl,rfl,q1,q2,q3,by lia⟩⟩) Z hla' hnb' iv' λy hy u hu=>?_
      rw[N] at hy;cases hy;exact ahead u (by rw[ek];exact hu)
    ·intro c G zq;refine hd λGq kq=>?_;obtain⟨na',D,B,mg',ac,Y,g',rfl,rfl,Z,hl',iv',hsz'⟩:=zq;refine kq ?_;exact .inr ⟨_,_,_,_,_,_,_,rfl,rfl,Z,hl',iv',hsz'⟩
    ·rintro c G (⟨r,hr,q⟩ | ⟨na',D,B,mg',ac,Y,g',rfl,rfl,Z,hl',iv',hsz'⟩)
     ·obtain⟨c1,c2⟩:=c;dsimp only at hr;subst hr;exact aA ⟨r,rfl,q⟩
     ·dsimp only;exact au (cI (aA ⟨_,_,_,_,_,rfl,rfl,Z,hl'.1,hl'.2,iv',by lia⟩))
 ·intro c G zq;refine hd λGq kq=>?_;obtain⟨na,nb,out,mg,g,rfl,rfl,hna,hla,hnb,iv,hsz⟩:=zq;refine kq ?_;exfalso
  have:=iv.size
  rw[sz,aK] at this;lia
 ·rintro c G ⟨r,hr,q⟩;obtain⟨c1,c2⟩:=c;dsimp only at hr;subst hr;exact aA q
end
theorem eJg (i:Nat):mergeAt' i=(do
 let s <- get
 let (some (sa,na,pw),some (sb,nb,_)):=((bF s)[i]?,(bF s)[i + 1]?) | eM "internal:list.sort.pending"
 set (fh s (((bF s).setIfInBounds i (sa,na + nb,pw)).eraseIdxIfInBounds (i + 1)))
 let some k <- gal false (<- dY (aN s) sb) (aN s) sa na 0 | return false
 let (sa,na):=(sa + k,na - k)
 if na == 0 then return true
 let some nb <- gal true (<- dY (aN s) (sa + na - 1)) (aN s) sb nb (nb - 1) | return false
 if nb == 0 then return true
 let x:=(aN s).extract sa sb
 let y:=(aN s).extract sb (sb + nb)
 let m <- if na<=nb then mLo x y else mHi x y
 modify λs=>cC s (m.toList.zipIdx.foldl (λa (p,j)=>a.setIfInBounds (sa + j) p) (aN s))
 return (ff (<- get)).isNone):=rfl
theorem eQ6 {M:Model} {A:aY} {E:ad->ai->Prop} {s:ai} {σ:Type} {st st':σ} {Q:PUnit->σ->Prop} (h:Q ⟨⟩ st'):wpS M A E s (set st':StateT σ Sem PUnit) Q st:=by
 unfold wpS;show aD M A (pure (PUnit.unit,st'):Sem (PUnit × σ)) _ E s;exact ae ⟨rfl,h⟩
theorem cQi (off:Nat):∀ (M:List aI) (k:Nat) (xs:Array aI),off + k + M.length<=xs.size->((M.zipIdx k).foldl (λa pj=>a.setIfInBounds (off + pj.2) pj.1) xs).toList=xs.toList.take (off + k)++M++xs.toList.drop (off + k + M.length)
 | [],k,xs,h=>by simp
 | x::M,k,xs,h=>by
  rw[List.zipIdx_cons,List.foldl_cons,cQi off M (k + 1) _ (by simp at h ⊢;lia)]
  simp only[ic];rw[aV] at h ⊢;have hl:off + k < xs.toList.length:=by simp;lia
  rw[show off + (k + 1)=off + k + 1 by lia,List.take_set,List.drop_set_of_lt (by lia),List.set_eq_take_append_cons_drop]
  have e1:(off + k) < (xs.toList.take (off + k + 1)).length:=by rw[aQ];lia
  rw[if_pos e1,List.take_take,Nat.min_eq_left (by lia),bO (by rw[aQ];lia)]
  simp[aZ,show off + k + 1 + M.length=off + k + (M.length + 1) by lia]
section
variable {prog:aC} {w:aO} {A:aY} {E:ad->ai->Prop} {s:ai} {κ:eI} {P:aI->Prop} {lt:aI->aI->Bool}
theorem eJh (o:Orc prog w A s κ P lt) {st:cH} {i sa na pw sb nb pw':Nat} {L1 Aa Bb L2:List aI} {Q:Bool->cH->Prop} (hk:kindOf st=κ) (hf:ff st=none) (hp1:(bF st)[i]?=some (sa,na,pw)) (hp2:(bF st)[i + 1]?=some (sb,nb,pw'))
  (hsb:sb=sa + na) (hl:(aN st).toList=L1++(Aa++(Bb++L2))) (l1:L1.length=sa) (lA:Aa.length=na) (lB:Bb.length=nb) (na1:1<=na) (nb1:1<=nb) (PA:∀ x∈Aa,P x) (PB:∀ x∈Bb,P x) (sA:Sd lt Aa) (sB:Sd lt Bb)
  (h:∀ C g xs,xs.toList=L1++(C++L2)->Sd lt C->C.Perm (Aa++Bb)->Q true (h8 κ xs (((bF st).setIfInBounds i (sa,na + nb,pw)).eraseIdxIfInBounds (i + 1)) g none)):wpS (aF prog w) A E s (mergeAt' i) Q st:=by
 have hsz:(aN st).size=sa + na + nb + L2.length:=by
  have:=congrArg e8 hl
  simp only[aK,av] at this;lia
 have atA:∀ j x,Aa[j]?=some x->(aN st)[sa + j]?=some x:=λj x q=>by
  have Y:=(aG.mp q).1;rw[<- aM,hl,bU (by lia),l1,Nat.add_sub_cancel_left,du Y];exact q
 have atB:∀ j x,Bb[j]?=some x->(aN st)[sb + j]?=some x:=λj x q=>by
  have Y:=(aG.mp q).1;rw[<- aM,hl,bU (by lia),l1,bU (by lia),lA,du (by lia)]
  rw[show sb + j - sa - na=j by lia];exact q
 have N:∀ j,j < na->∃ x,Aa[j]?=some x:=λj q=>⟨Aa[j],af (by lia)⟩
 have L:∀ j,j < nb->∃ x,Bb[j]?=some x:=λj q=>⟨Bb[j],af (by lia)⟩
 obtain⟨b0,Z⟩:=L 0 nb1;have pb0:=PB b0 (ak Z);rw[eJg];refine au (gS ?_);rw[hp1,hp2];dsimp only;refine au (eQ6 ?_);have U:kindOf (fh st (((bF st).setIfInBounds i (sa,na + nb,pw)).eraseIdxIfInBounds (i + 1)))=κ:=hk;have est:∀ g xs,cC (setG (fh st (((bF st).setIfInBounds i (sa,na + nb,pw)).eraseIdxIfInBounds (i + 1))) g) xs=h8 κ xs (((bF st).setIfInBounds i (sa,na + nb,pw)).eraseIdxIfInBounds (i + 1)) g none:=λg xs=>by
  show h8 (kindOf st) xs _ g (ff st)=_;rw[hk,hf]
 refine au (aZd (x:=b0) (by have:=atB 0 b0 Z;rwa [Nat.add_zero] at this) (au (bQw o (f:=λj=>Aa.getD j (.none,.none)) U pb0 (λj q=>?_) (λj j' hjj q hb=>?_) (by lia) λk k1 k2 k3=>?_)))
 ·obtain⟨x,D⟩:=N j q;rw[ah,D];exact⟨atA j x D,PA x (ak D)⟩
 ·obtain⟨z,hz⟩:=N j (by lia)
  obtain⟨z',hz'⟩:=N j' q;rw[ah,hz'] at hb;rw[ah,hz];have hb':lt b0 z'=false:=by simpa [bv] using hb
  show(!lt b0 z)=true;rcases Nat.eq_or_lt_of_le hjj with rfl | hlt
  ·rw[hz] at hz';cases hz';rw[hb'];rfl
  ·rw[o.tr z z' b0 (PA z (ak hz)) (PA z' (ak hz')) pb0 (sA.at hlt hz hz') hb'];rfl
 have R:∀ u∈Aa.take k,∀ v∈Bb,lt v u=false:=λu G v J=>by
  obtain⟨j,q,e⟩:=aQs G
  have:=k2 j q
  rw[ah,e] at this;have h1:(!lt b0 u)=true:=this;exact bXd o PB sB (i:=0) (PA u (ak e)) Z (by simpa using h1) v J
 have upA:∀ u∈Aa.drop k,lt u b0=false:=λu G=>by
  obtain⟨j,q,e⟩:=aQo G;have Y:=(aG.mp e).1
  have:=k3 j q (by lia)
  rw[ah,e] at this;have h1:(!lt b0 u)=false:=this;exact o.as _ _ pb0 (PA u (ak e)) (by simpa using h1)
 dsimp only;have whole:∀ g,Sd lt (Aa++Bb)->Q true (setG (fh st (((bF st).setIfInBounds i (sa,na + nb,pw)).eraseIdxIfInBounds (i + 1))) g):=λg hs=>by
  have:=h (Aa++Bb) g (aN st) (by rw[hl,aZ]) hs (c9 _)
  rw[<- est g (aN st)] at this;exact this
 by_cases c1:(na - k == 0)=true
 ·rw[if_pos c1];have kn:k=na:=by
   have:na - k=0:=by simpa using c1
   lia
  refine aA (whole _ (bf.mpr ⟨sA,sB,λu G v J=>R u ?_ v J⟩));rw[kn,<- lA,dX];exact G
 rw[if_neg c1];have c1':na - k≠0:=by simpa using c1
 obtain⟨al,hal⟩:=N (na - 1) (by lia)
 have pal:=PA al (ak hal);refine au (aZd (x:=al) (by have:=atA _ al hal;rwa [show sa + k + (na - k) - 1=sa + (na - 1) by lia]) (au (bQw o (f:=λj=>Bb.getD j (.none,.none)) U pal (λj q=>?_) (λj j' hjj q hb=>?_) (by lia) λm m1 m2 m3=>?_)))
 ·obtain⟨x,D⟩:=L j q;rw[ah,D];exact⟨atB j x D,PB x (ak D)⟩
 ·obtain⟨z,hz⟩:=L j (by lia)
  obtain⟨z',hz'⟩:=L j' q;rw[ah,hz'] at hb;rw[ah,hz];have hb':lt z' al=true:=hb;show lt z al=true;cases e:lt z al with
  | true=>rfl
  | false =>
   exfalso;have pz:=PB z (ak hz);have pz':=PB z' (ak hz');rcases Nat.eq_or_lt_of_le hjj with rfl | hlt
   ·rw[hz] at hz';cases hz';rw[e] at hb';cases hb'
   ·have:=o.tr al z z' pal pz pz' e (sB.at hlt hz hz')
    rw[hb'] at this;cases this
 have upB:∀ v∈Bb.drop m,∀ u∈Aa,lt v u=false:=λv J u G=>by
  obtain⟨j,q,e⟩:=aQo J;have Y:=(aG.mp e).1
  have:=m3 j q (by lia)
  rw[ah,e] at this;have h1:lt v al=false:=this
  have:=bXe o PA sA (PB v (ak e)) hal h1
  rw[show na - 1 + 1=Aa.length by lia,dX] at this
  exact this u G
 have lowB:∀ v∈Bb.take m,lt al v=false:=λv J=>by
  obtain⟨j,q,e⟩:=aQs J
  have:=m2 j q
  rw[ah,e] at this;exact o.as _ _ (PB v (ak e)) pal this
 dsimp only
 by_cases c2:(m == 0)=true
 ·rw[if_pos c2];have m0:m=0:=by simpa using c2
  refine aA (whole _ (bf.mpr ⟨sA,sB,λu G v J=>upB v ?_ u G⟩));rw[m0];exact J
 rw[if_neg c2];have c2':m≠0:=by simpa using c2
 have ex:((aN st).extract (sa + k) sb).toList=Aa.drop k:=by
  rw[aZi,hl,<- l1,fo,bO (by lia),bD,Nat.add_sub_cancel_left,eN (by lia),cS (by rw[bq];lia)]
  exact bE (by rw[bq];lia)
 have ey:((aN st).extract sb (sb + m)).toList=Bb.take m:=by
  rw[aZi,hl,Nat.add_sub_cancel_left,fo,bO (by lia),bD,fo,bO (by lia),bD,show sb - L1.length - Aa.length=0 by lia,fZ,cS (by lia)]
 have zx:((aN st).extract (sa + k) sb).size=na - k:=by rw[<- aK,ex,bq,lA]
 have zy:((aN st).extract sb (sb + m)).size=m:=by rw[<- aK,ey,aQ];lia
 have fin:∀ (M:Array aI) g,Sd lt M.toList->M.toList.Perm (((aN st).extract (sa + k) sb).toList++((aN st).extract sb (sb + m)).toList)->wpS (aF prog w) A E s (do
   modify λs=>cC s (M.toList.zipIdx.foldl (λa O=>a.setIfInBounds (sa + k + O.2) O.1) (aN s))
   let z <- get
   pure (ff z).isNone) Q (setG (fh st (((bF st).setIfInBounds i (sa,na + nb,pw)).eraseIdxIfInBounds (i + 1))) g):=λM g hs B=>by
  refine au (cI (au (gS (aA ?_))));rw[ex,ey] at B;have ml:=B.length_eq;rw[av,bq,aQ] at ml;have ll:=cQi (sa + k) M.toList 0 (aN st) (by lia)
  have hfn:(ff (cC (setG (fh st (((bF st).setIfInBounds i (sa,na + nb,pw)).eraseIdxIfInBounds (i + 1))) g) (M.toList.zipIdx.foldl (λa O=>a.setIfInBounds (sa + k + O.2) O.1) (aN st)))).isNone=true:=by
   show(ff st).isNone=true;rw[hf];rfl
  have main:=h (Aa.take k++(M.toList++Bb.drop m)) g (M.toList.zipIdx.foldl (λa O=>a.setIfInBounds (sa + k + O.2) O.1) (aN st)) ?_ ?_ ?_
  ·rw[<- est g] at main;show Q _ _;have e0:(ff (cC (setG (fh st (((bF st).setIfInBounds i (sa,na + nb,pw)).eraseIdxIfInBounds (i + 1))) g) (M.toList.zipIdx.foldl (λa O=>a.setIfInBounds (sa + k + O.2) O.1) (aN st)))).isNone=true:=hfn;exact(e0.symm ▸ main)
  ·rw[ll,hl];have t1:(L1++(Aa++(Bb++L2))).take (sa + k + 0)=L1++Aa.take k:=by
    rw[<- l1,Nat.add_zero,List.take_append,bE (by lia),Nat.add_sub_cancel_left,cS (by lia)]
   have t2:(L1++(Aa++(Bb++L2))).drop (sa + k + 0 + M.toList.length)=Bb.drop m++L2:=by
    rw[fo,bO (by lia),bD,fo,bO (by lia),bD,show sa + k + 0 + M.toList.length - L1.length - Aa.length=m by lia,eN (by lia)]
   rw[t1,t2];simp only[aZ]
  ·have sA':Sd lt (Aa.take k++Aa.drop k):=by rw[bj];exact sA
   have sB':Sd lt (Bb.take m++Bb.drop m):=by rw[bj];exact sB
   obtain⟨a1,_,a3⟩:=bf.mp sA';obtain⟨_,b2,b3⟩:=bf.mp sB';refine bf.mpr ⟨a1,bf.mpr ⟨hs,b2,λu G v J=>?_⟩,λu G v J=>?_⟩
   ·rcases ar.mp (B.mem_iff.mp G) with z | z
    ·exact upB v J u (cF z)
    ·exact b3 u z v J
   ·rcases ar.mp J with z | z
    ·rcases ar.mp (B.mem_iff.mp z) with y | y
     ·exact a3 u G v y
     ·exact R u G v (b5 y)
    ·exact R u G v (cF z)
  ·have e1:(Aa++Bb)=Aa.take k++(Aa.drop k++(Bb.take m++Bb.drop m)):=by rw[<- aZ,bj,bj]
   rw[e1];refine d0 _ ?_;rw[<- aZ];exact dQ _ B
 have pX:∀ x∈((aN st).extract (sa + k) sb).toList,P x:=λx D=>PA x (cF (by rw[ex] at D;exact D))
 have pY:∀ x∈((aN st).extract sb (sb + m)).toList,P x:=λx D=>PB x (b5 (by rw[ey] at D;exact D))
 have hF:∀ y,((aN st).extract sb (sb + m)).toList[0]?=some y->∀ x∈((aN st).extract (sa + k) sb).toList,lt x y=false:=λy hy x D=>by
  rw[ey,fB (by lia),Z] at hy
  cases hy;rw[ex] at D;exact upA x D
 have hL:∀ z,((aN st).extract (sa + k) sb).toList[((aN st).extract (sa + k) sb).size - 1]?=some z->∀ y∈((aN st).extract sb (sb + m)).toList,lt z y=false:=λz hz y hy=>by
  rw[ex,zx,g9,show k + (na - k - 1)=na - 1 by lia,hal] at hz
  cases hz;rw[ey] at hy;exact lowB y hy
 have sX:Sd lt ((aN st).extract (sa + k) sb).toList:=by rw[ex];exact sA.drop k
 have sY:Sd lt ((aN st).extract sb (sb + m)).toList:=by rw[ey];exact sB.take m
 by_cases c3:na - k<=m
 ·rw[if_pos c3];exact au (eJd o U pX pY sX sY (by lia) (by lia) hF hL λM g hs B=>fin M g hs B)
 ·rw[if_neg c3];exact au (eJf o U pX pY sX sY (by lia) (by lia) hF hL λM g hs B=>fin M g hs B)
end
def at0 (xs:Array aI) (i:Nat):aI:=(xs[i]?).getD (.none,.none)
theorem cXz {xs ys:Array aI} {i j:Nat} (h:xs[i]?=ys[j]?):at0 xs i=at0 ys j:=by unfold at0;rw[h]
def Gd (lo:Nat) (a xs:Array aI):Prop:=xs.Perm a/\∀ i,i < lo->xs[i]?=a[i]?
theorem Gd.size {lo:Nat} {a xs:Array aI} (h:Gd lo a xs):xs.size=a.size:=h.1.size_eq
def Up (lt:aI->aI->Bool) (xs:Array aI) (i j:Nat):Prop:=∀ p q,i<=p->p < q->q < j->lt (at0 xs q) (at0 xs p)=false
def Dn (lt:aI->aI->Bool) (xs:Array aI) (i j:Nat):Prop:=∀ p q,i<=p->p < q->q < j->lt (at0 xs p) (at0 xs q)=false
def Eqs (lt:aI->aI->Bool) (xs:Array aI) (i j:Nat):Prop:=∀ p q,i<=p->p < j->i<=q->q < j->lt (at0 xs p) (at0 xs q)=false
theorem aJz {xs:Array aI} {i j:Nat} (hj:j<=xs.size) (k:Nat):at0 (dr xs i j ((j - i) / 2)) k=if i<=k/\k < j then at0 xs (i + j - 1 - k) else at0 xs k:=by
 have e:=getElem?_mirror_all (i:=i) hj k
 split at e
 ·next h=>rw[if_pos h];exact cXz e
 ·next h=>rw[if_neg h];exact cXz e
theorem Gd.rev {lo i j d:Nat} {a xs:Array aI} (h:Gd lo a xs) (hi:lo<=i) (hj:j<=xs.size) (hd:d=(j - i) / 2):Gd lo a (dr xs i j d):=by
 subst hd;refine⟨(mirror_perm _ _ _ _).trans h.1,λk q=>?_⟩;rw[getElem?_mirror_all hj,if_neg (by lia)]
 exact h.2 k q
section
variable {prog:aC} {w:aO} {A:aY} {E:ad->ai->Prop} {s:ai} {κ:eI} {P:aI->Prop} {lt:aI->aI->Bool}
theorem gd_P {lo:Nat} {a xs:Array aI} (h:Gd lo a xs) (PA:∀ x∈a.toList,P x) {i:Nat} (hi:i < a.size):xs[i]?=some (at0 xs i)/\P (at0 xs i):=by
 have j:i < xs.size:=by rw[h.size];exact hi
 have e:xs[i]?=some xs[i]:=getElem?_pos _ i j;have e2:at0 xs i=xs[i]:=by unfold at0;rw[e];rfl
 rw[e2];exact⟨e,PA _ ((cJ.mp h.1).mem_iff.mp (by simp))⟩
theorem aZe (o:Orc prog w A s κ P lt) {st:cH} {xs:Array aI} {lo i j:Nat} {Q:Option Bool->cH->Prop} (hk:kindOf st=κ) (PA:∀ x∈(aN st).toList,P x) (g:Gd lo (aN st) xs) (hi:i < (aN st).size) (hj:j < (aN st).size) (h:Q (some (lt (at0 xs i) (at0 xs j))) (cC st xs)) :
  wpS (aF prog w) A E s (ltAt' i j) Q (cC st xs):=by
 rw[ltAt'_eq];refine au (gS ?_);obtain⟨e1,q⟩:=gd_P g PA hi;obtain⟨e2,p2⟩:=gd_P g PA hj;exact au (aZd e1 (au (aZd e2 (cXx o hk q p2 h))))
theorem irr (o:Orc prog w A s κ P lt) {x:aI} (hx:P x):lt x x=false:=by
 cases e:lt x x with
 | false=>rfl
 | true=>exact absurd (e.symm.trans (o.as x x hx hx e)) (by decide)
variable {st:cH} {xs:Array aI} {lo:Nat}
theorem Up.more (o:Orc prog w A s κ P lt) {i j:Nat} (hP:∀ p,p<=j->P (at0 xs p)) (h:Up lt xs i j) (hij:i < j) (e:lt (at0 xs j) (at0 xs (j - 1))=false):Up lt xs i (j + 1):=λp q h1 h2 B=>by
 rcases Nat.lt_or_ge q j with z | z
 ·exact h p q h1 h2 z
 ·have:q=j:=by lia
  subst this;rcases Nat.lt_or_ge p (q - 1) with y | y
  ·exact o.tr _ _ _ (hP p (by lia)) (hP (q - 1) (by lia)) (hP q (by lia)) (h p (q - 1) h1 y (by lia)) e
  ·have:p=q - 1:=by lia
   rw[this];exact e
theorem Dn.more (o:Orc prog w A s κ P lt) {i j:Nat} (hP:∀ p,p<=j->P (at0 xs p)) (h:Dn lt xs i j) (hij:i < j) (e:lt (at0 xs (j - 1)) (at0 xs j)=false):Dn lt xs i (j + 1):=λp q h1 h2 B=>by
 rcases Nat.lt_or_ge q j with z | z
 ·exact h p q h1 h2 z
 ·have:q=j:=by lia
  subst this;rcases Nat.lt_or_ge p (q - 1) with y | y
  ·exact o.tr _ _ _ (hP q (by lia)) (hP (q - 1) (by lia)) (hP p (by lia)) e (h p (q - 1) h1 y (by lia))
  ·have:p=q - 1:=by lia
   rw[this];exact e
theorem Dn.rev {i j d:Nat} (h:Dn lt xs i j) (hj:j<=xs.size) (hd:d=(j - i) / 2):Up lt (dr xs i j d) i j:=λp q h1 h2 z=>by
 subst hd;rw[aJz hj,aJz hj,if_pos ⟨by lia,by lia⟩,if_pos ⟨by lia,by lia⟩]
 exact h _ _ (by lia) (by lia) (by lia)
theorem Dn.eqs {i j c d:Nat} (h:Dn lt xs i j) (hc:i<=c) (he:Eqs lt xs c j) (hj:j<=xs.size) (hd:d=(j - c) / 2):Dn lt (dr xs c j d) i j:=λp q h1 h2 z=>by
 subst hd;rw[aJz hj,aJz hj]
 by_cases a1:c<=p/\p < j
 ·rw[if_pos a1,if_pos ⟨by lia,by lia⟩]
  exact he _ _ (by lia) (by lia) (by lia) (by lia)
 ·rw[if_neg a1]
  by_cases a2:c<=q/\q < j
  ·rw[if_pos a2];exact h _ _ h1 (by lia) (by lia)
  ·rw[if_neg a2];exact h _ _ h1 h2 z
theorem eJi (o:Orc prog w A s κ P lt) {nrem:Nat} {Q:Option Nat->cH->Prop} (hk:kindOf st=κ) (PA:∀ x∈(aN st).toList,P x) (hn:1<=nrem) (hs:lo + nrem<=(aN st).size)
  (h:∀ n xs,1<=n->n<=nrem->Gd lo (aN st) xs->Up lt xs lo (lo + n)->Q (some n) (cC st xs)):wpS (aF prog w) A E s (countRun' lo nrem) Q st:=by
 have G:∀ {xs},Gd lo (aN st) xs->∀ p,p < (aN st).size->P (at0 xs p):=λg p J=>(gd_P g PA J).2;rw[countRun'_eq];dsimp only;have est:st=cC st (aN st):=rfl;have g0:Gd lo (aN st) (aN st):=⟨jg _,λ_ _=>rfl⟩;refine au (cY (bI (I:=λx c B=>B=cC st (aN st)/\c=(none,x)/\1<=x/\Up lt (aN st) lo (lo + x))
  (Q:=λc B=>B=cC st (aN st)/\∃ n,c=(none,n)/\1<=n/\n<=nrem/\Up lt (aN st) lo (lo + n)/\(n < nrem->lt (at0 (aN st) (lo + n)) (at0 (aN st) (lo + n - 1))=true)) ?_ ?_ ⟨est,rfl,Nat.le_refl _,λp q _ _ _=>by lia⟩) ?_)
 ·rintro x c B _ hx ⟨rfl,rfl,h1,D⟩;dsimp only;refine au (aZe o (i:=lo + x) (j:=lo + x - 1) hk PA g0 (by lia) (by lia) ?_)
  dsimp only;cases e:lt (at0 (aN st) (lo + x)) (at0 (aN st) (lo + x - 1)) with
  | true=>rw[if_pos rfl];exact aA ⟨rfl,x,rfl,h1,by lia,D,λ_=>e⟩
  | false=>rw[if_neg (by simp)];exact aA ⟨rfl,rfl,by lia,Up.more o (i:=lo) (j:=lo + x) (λp J=>G g0 p (by lia)) D (by lia) e⟩
 ·rintro c B ⟨rfl,rfl,h1,D⟩;refine⟨rfl,_,rfl,by lia,by lia,D,λz=>by lia⟩
 ·rintro c B ⟨rfl,n,rfl,N,L,D,hlt⟩;dsimp only
  by_cases c0:(n == nrem)=true
  ·rw[if_pos c0];exact aA (h n _ N L g0 D)
  rw[if_neg c0];have c0':n < nrem:=by
   have:n≠nrem:=by simpa using c0
   lia
  have hlt':=hlt c0';have pp:∀ p,p<=lo + n->P (at0 (aN st) p):=λp J=>G g0 p (by lia)
  have hle:=o.as _ _ (pp _ (Nat.le_refl _)) (pp _ (by lia)) hlt'
  by_cases cn:n > 1
  ·rw[if_pos cn];refine au (aZe o (i:=lo) (j:=lo + n - 1) hk PA g0 (by lia) (by lia) ?_)
   dsimp only;cases e:lt (at0 (aN st) lo) (at0 (aN st) (lo + n - 1)) with
   | true=>rw[if_pos rfl];exact aA (h n _ N L g0 D)
   | false =>
    rw[if_neg (by simp),cZ]
    have down:∀ p,lo<=p->p < lo + n->lt (at0 (aN st) p) (at0 (aN st) (lo + n - 1))=false:=λp h1 h2=>by
     rcases Nat.eq_or_lt_of_le h1 with rfl | h1
     ·exact e
     ·exact o.tr _ _ _ (pp _ (by lia)) (pp _ (by lia)) (pp _ (by lia)) e (D lo p (Nat.le_refl _) h1 h2)
    have dn:Dn lt (aN st) lo (lo + n):=λp q h1 h2 Y=>by
     rcases Nat.eq_or_lt_of_le (show q<=lo + n - 1 by lia) with z | z
     ·rw[z];exact down p h1 (by lia)
     ·exact o.tr _ _ _ (pp _ (by lia)) (pp _ (by lia)) (pp _ (by lia)) (D q (lo + n - 1) (by lia) z (by lia)) (down p h1 (by lia))
    have eqs:Eqs lt (aN st) lo (lo + n):=λp q h1 h2 Y h4=>by
     rcases Nat.lt_trichotomy p q with z | z | z
     ·exact dn p q h1 z h4
     ·subst z;exact irr o (pp _ (by lia))
     ·exact D q p Y z h2
    have g2:Gd lo (aN st) (dr (aN st) lo (lo + n) ((lo + n - lo) / 2)):=g0.rev (Nat.le_refl _) (by lia) rfl
    have hd:Dn lt (dr (aN st) lo (lo + n) ((lo + n - lo) / 2)) lo (lo + (n + 1)):=by
     refine Dn.more o (i:=lo) (j:=lo + n) (λp J=>G g2 p (by lia)) (dn.eqs (Nat.le_refl _) eqs (by lia) rfl) (by lia) ?_
     have Z:=aJz (xs:=aN st) (i:=lo) (j:=lo + n) (by lia)
     rw[Z,Z,if_pos ⟨by lia,by lia⟩,if_neg (by lia)]
     exact o.tr _ _ _ (pp _ (by lia)) (pp (lo + n - 1) (by lia)) (pp _ (by lia)) hle (down _ (by lia) (by lia))
    have L:=c0';refine au (cI ?_);change wpS _ _ _ _ _ _ (cC st (dr (aN st) lo (lo + n) ((lo + n - lo) / 2)))
    rename Gd lo (aN st) (dr (aN st) lo (lo + n) ((lo + n - lo) / 2))=>g
    generalize dr (aN st) lo (lo + n) ((lo + n - lo) / 2)=xs at g hd ⊢;refine au (h9 (c7 ⟨rfl,?_⟩));refine au (cY (bI (I:=λx c B=>∃ xs q,B=cC st xs/\c=(none,x,q)/\2<=x/\q + 1<=x/\Gd lo (aN st) xs/\Dn lt xs lo (lo + x)/\Eqs lt xs (lo + x - (q + 1)) (lo + x))
     (Q:=λc B=>∃ xs n q,B=cC st xs/\c=(none,n,q)/\1<=n/\n<=nrem/\q + 1<=n/\Gd lo (aN st) xs/\Dn lt xs lo (lo + n)/\Eqs lt xs (lo + n - (q + 1)) (lo + n)) ?_ ?_ ⟨xs,0,rfl,rfl,by lia,by lia,g,hd,λp q h1 h2 Y h4=>by
      have:p=q:=by lia
      subst this;exact irr o (G g p (by lia))⟩) ?_)
    ·rintro x c B _ hx ⟨xs,q,rfl,rfl,x2,U,g,hd,he⟩;have hxs:xs.size=(aN st).size:=g.size;dsimp only;refine au (aZe o (i:=lo + x) (j:=lo + x - 1) hk PA g (by lia) (by lia) ?_)
     dsimp only;cases e:lt (at0 xs (lo + x)) (at0 xs (lo + x - 1)) with
     | true =>
      rw[if_pos rfl];have e2:=o.as _ _ (G g _ (by lia)) (G g _ (by lia)) e
      have one:∀ ys,Gd lo (aN st) ys->Eqs lt ys (lo + (x + 1) - (0 + 1)) (lo + (x + 1)):=λys g' p q h1 h2 Y h4=>by
       have:p=q:=by lia
       subst this;exact irr o (G g' p (by lia))
      by_cases R:q > 0
      ·rw[if_pos R,cZ];have hd2:(lo + x - (lo + x - (q + 1))) / 2=(lo + x - (lo + x - (q + 1))) / 2:=rfl;have g2:Gd lo (aN st) (dr xs (lo + x - (q + 1)) (lo + x) ((lo + x - (lo + x - (q + 1))) / 2)):=g.rev (by lia) (by lia) rfl
       have d2:Dn lt (dr xs (lo + x - (q + 1)) (lo + x) ((lo + x - (lo + x - (q + 1))) / 2)) lo (lo + x):=hd.eqs (by lia) he (by lia) rfl
       refine au (cI (aA ⟨_,0,rfl,rfl,by lia,by lia,g2,Dn.more o (i:=lo) (j:=lo + x) (λp J=>G g2 p (by lia)) d2 (by lia) ?_,one _ g2⟩))
       have Z:=aJz (xs:=xs) (i:=lo + x - (q + 1)) (j:=lo + x) (by lia)
       rw[Z,Z,if_pos ⟨by lia,by lia⟩,if_neg (by lia)]
       exact o.tr (at0 xs (lo + x)) (at0 xs (lo + x - 1)) _ (G g _ (by lia)) (G g _ (by lia)) (G g _ (by lia)) e2 (he _ _ (by lia) (by lia) (by lia) (by lia))
      ·rw[if_neg R];exact aA ⟨xs,0,rfl,rfl,by lia,by lia,g,Dn.more o (i:=lo) (j:=lo + x) (λp J=>G g p (by lia)) hd (by lia) e2,one _ g⟩
     | false =>
      rw[if_neg (by simp)]
      refine au (aZe o (i:=lo + x - 1) (j:=lo + x) hk PA g (by lia) (by lia) ?_)
      dsimp only;cases e2:lt (at0 xs (lo + x - 1)) (at0 xs (lo + x)) with
      | true=>rw[if_pos rfl];exact aA ⟨xs,x,q,rfl,rfl,by lia,by lia,U,g,hd,he⟩
      | false =>
       rw[if_neg (by simp)]
       refine aA ⟨xs,q + 1,rfl,rfl,by lia,by lia,g,Dn.more o (i:=lo) (j:=lo + x) (λp J=>G g p (by lia)) hd (by lia) e2,λp r h1 h2 Y h4=>?_⟩
       have pp:∀ p,p<=lo + x->P (at0 xs p):=λp J=>G g p (by lia)
       have low:∀ p,lo + x - (q + 1)<=p->p < lo + x->lt (at0 xs p) (at0 xs (lo + x))=false/\lt (at0 xs (lo + x)) (at0 xs p)=false:=λp a1 a2=>by
        have b1:=he p (lo + x - 1) a1 a2 (by lia) (by lia)
        have b2:=he (lo + x - 1) p (by lia) (by lia) a1 a2
        exact⟨o.tr _ _ _ (pp _ (by lia)) (pp _ (by lia)) (pp _ (by lia)) e2 b1,o.tr _ _ _ (pp _ (by lia)) (pp _ (by lia)) (pp _ (by lia)) b2 e⟩
       by_cases z1:p=lo + x
       ·by_cases z2:r=lo + x
        ·rw[z1,z2];exact irr o (pp _ (by lia))
        ·rw[z1];exact(low r (by lia) (by lia)).2
       ·by_cases z2:r=lo + x
        ·rw[z2];exact(low p (by lia) (by lia)).1
        ·exact he p r (by lia) (by lia) (by lia) (by lia)
    ·rintro c B ⟨xs,q,rfl,rfl,x2,U,g,hd,he⟩;exact⟨xs,_,q,rfl,rfl,by lia,by lia,U,g,by rwa [show max (n + 1) nrem=nrem by lia] at hd ⊢,he⟩
    ·rintro c B ⟨xs,n,q,rfl,rfl,N,L,U,g,hd,he⟩;have hxs:xs.size=(aN st).size:=g.size;dsimp only
     by_cases R:q > 0
     ·rw[if_pos R,cZ,cZ];have g2:Gd lo (aN st) (dr xs (lo + n - (q + 1)) (lo + n) ((lo + n - (lo + n - (q + 1))) / 2)):=g.rev (by lia) (by lia) rfl
      have d2:Dn lt (dr xs (lo + n - (q + 1)) (lo + n) ((lo + n - (lo + n - (q + 1))) / 2)) lo (lo + n):=hd.eqs (by lia) he (by lia) rfl
      have s2:=g2.size;have g3:=g2.rev (i:=lo) (j:=lo + n) (Nat.le_refl _) (by lia) rfl
      have O:=d2.rev (i:=lo) (j:=lo + n) (by lia) rfl
      refine au (cI (au (cI ?_)));change wpS _ _ _ _ _ _ (cC st (dr (dr xs (lo + n - (q + 1)) (lo + n) ((lo + n - (lo + n - (q + 1))) / 2)) lo (lo + n) ((lo + n - lo) / 2)));generalize dr (dr xs (lo + n - (q + 1)) (lo + n) ((lo + n - (lo + n - (q + 1))) / 2)) lo (lo + n) ((lo + n - lo) / 2)=zs at g3 O ⊢;refine au (cY (bI (I:=λx c B=>B=cC st zs/\c=(none,x)/\n<=x/\Up lt (zs) lo (lo + x))
       (Q:=λc B=>B=cC st zs/\∃ n,c=(none,n)/\1<=n/\n<=nrem/\Up lt (zs) lo (lo + n)) ?_ ?_ ⟨rfl,rfl,Nat.le_refl _,O⟩) ?_)
      ·rintro x c B _ hx ⟨rfl,rfl,h1,D⟩;dsimp only;refine au (aZe o (i:=lo + x) (j:=lo + x - 1) hk PA g3 (by lia) (by lia) ?_)
       dsimp only;cases e:lt (at0 (zs) (lo + x)) (at0 (zs) (lo + x - 1)) with
       | true=>rw[if_pos rfl];exact aA ⟨rfl,x,rfl,by lia,by lia,D⟩
       | false=>rw[if_neg (by simp)];exact aA ⟨rfl,rfl,by lia,Up.more o (i:=lo) (j:=lo + x) (λp J=>G g3 p (by lia)) D (by lia) e⟩
      ·rintro c B ⟨rfl,rfl,h1,D⟩;exact⟨rfl,_,rfl,by lia,by lia,D⟩
      ·rintro c B ⟨rfl,n,rfl,N,L,D⟩;exact aA (h n (zs) N L g3 D)
     ·rw[if_neg R,cZ];have g3:=g.rev (i:=lo) (j:=lo + n) (Nat.le_refl _) (by lia) rfl
      have O:=hd.rev (i:=lo) (j:=lo + n) (by lia) rfl
      refine au (cI ?_);change wpS _ _ _ _ _ _ (cC st (dr xs lo (lo + n) ((lo + n - lo) / 2)));generalize dr xs lo (lo + n) ((lo + n - lo) / 2)=zs at g3 O ⊢;refine au (cY (bI (I:=λx c B=>B=cC st zs/\c=(none,x)/\n<=x/\Up lt (zs) lo (lo + x))
       (Q:=λc B=>B=cC st zs/\∃ n,c=(none,n)/\1<=n/\n<=nrem/\Up lt (zs) lo (lo + n)) ?_ ?_ ⟨rfl,rfl,Nat.le_refl _,O⟩) ?_)
      ·rintro x c B _ hx ⟨rfl,rfl,h1,D⟩;dsimp only;refine au (aZe o (i:=lo + x) (j:=lo + x - 1) hk PA g3 (by lia) (by lia) ?_)
       dsimp only;cases e:lt (at0 (zs) (lo + x)) (at0 (zs) (lo + x - 1)) with
       | true=>rw[if_pos rfl];exact aA ⟨rfl,x,rfl,by lia,by lia,D⟩
       | false=>rw[if_neg (by simp)];exact aA ⟨rfl,rfl,by lia,Up.more o (i:=lo) (j:=lo + x) (λp J=>G g3 p (by lia)) D (by lia) e⟩
      ·rintro c B ⟨rfl,rfl,h1,D⟩;exact⟨rfl,_,rfl,by lia,by lia,D⟩
      ·rintro c B ⟨rfl,n,rfl,N,L,D⟩;exact aA (h n (zs) N L g3 D)
  ·rw[if_neg cn];have e1:n=1:=by lia
   subst e1;have hd:Dn lt (aN st) lo (lo + (1 + 1)):=λp q h1 h2 Y=>by
    have ep:p=lo:=by lia
    have eq:q=lo + 1:=by lia
    rw[ep,eq];exact hle
   have L:=c0';have g:=g0;refine au (h9 (c7 ⟨rfl,?_⟩));refine au (cY (bI (I:=λx c B=>∃ xs q,B=cC st xs/\c=(none,x,q)/\2<=x/\q + 1<=x/\Gd lo (aN st) xs/\Dn lt xs lo (lo + x)/\Eqs lt xs (lo + x - (q + 1)) (lo + x))
    (Q:=λc B=>∃ xs n q,B=cC st xs/\c=(none,n,q)/\1<=n/\n<=nrem/\q + 1<=n/\Gd lo (aN st) xs/\Dn lt xs lo (lo + n)/\Eqs lt xs (lo + n - (q + 1)) (lo + n)) ?_ ?_ ⟨aN st,0,rfl,rfl,by lia,by lia,g,hd,λp q h1 h2 Y h4=>by
     have:p=q:=by lia
     subst this;exact irr o (G g p (by lia))⟩) ?_)
   ·rintro x c B _ hx ⟨xs,q,rfl,rfl,x2,U,g,hd,he⟩;have hxs:xs.size=(aN st).size:=g.size;dsimp only;refine au (aZe o (i:=lo + x) (j:=lo + x - 1) hk PA g (by lia) (by lia) ?_)
    dsimp only;cases e:lt (at0 xs (lo + x)) (at0 xs (lo + x - 1)) with
    | true =>
     rw[if_pos rfl];have e2:=o.as _ _ (G g _ (by lia)) (G g _ (by lia)) e
     have one:∀ ys,Gd lo (aN st) ys->Eqs lt ys (lo + (x + 1) - (0 + 1)) (lo + (x + 1)):=λys g' p q h1 h2 Y h4=>by
      have:p=q:=by lia
      subst this;exact irr o (G g' p (by lia))
     by_cases R:q > 0
     ·rw[if_pos R,cZ];have hd2:(lo + x - (lo + x - (q + 1))) / 2=(lo + x - (lo + x - (q + 1))) / 2:=rfl;have g2:Gd lo (aN st) (dr xs (lo + x - (q + 1)) (lo + x) ((lo + x - (lo + x - (q + 1))) / 2)):=g.rev (by lia) (by lia) rfl
      have d2:Dn lt (dr xs (lo + x - (q + 1)) (lo + x) ((lo + x - (lo + x - (q + 1))) / 2)) lo (lo + x):=hd.eqs (by lia) he (by lia) rfl
      refine au (cI (aA ⟨_,0,rfl,rfl,by lia,by lia,g2,Dn.more o (i:=lo) (j:=lo + x) (λp J=>G g2 p (by lia)) d2 (by lia) ?_,one _ g2⟩))
      have Z:=aJz (xs:=xs) (i:=lo + x - (q + 1)) (j:=lo + x) (by lia)
      rw[Z,Z,if_pos ⟨by lia,by lia⟩,if_neg (by lia)]
      exact o.tr (at0 xs (lo + x)) (at0 xs (lo + x - 1)) _ (G g _ (by lia)) (G g _ (by lia)) (G g _ (by lia)) e2 (he _ _ (by lia) (by lia) (by lia) (by lia))
     ·rw[if_neg R];exact aA ⟨xs,0,rfl,rfl,by lia,by lia,g,Dn.more o (i:=lo) (j:=lo + x) (λp J=>G g p (by lia)) hd (by lia) e2,one _ g⟩
    | false =>
     rw[if_neg (by simp)]
     refine au (aZe o (i:=lo + x - 1) (j:=lo + x) hk PA g (by lia) (by lia) ?_)
     dsimp only;cases e2:lt (at0 xs (lo + x - 1)) (at0 xs (lo + x)) with
     | true=>rw[if_pos rfl];exact aA ⟨xs,x,q,rfl,rfl,by lia,by lia,U,g,hd,he⟩
     | false =>
      rw[if_neg (by simp)]
      refine aA ⟨xs,q + 1,rfl,rfl,by lia,by lia,g,Dn.more o (i:=lo) (j:=lo + x) (λp J=>G g p (by lia)) hd (by lia) e2,λp r h1 h2 Y h4=>?_⟩
      have pp:∀ p,p<=lo + x->P (at0 xs p):=λp J=>G g p (by lia)
      have low:∀ p,lo + x - (q + 1)<=p->p < lo + x->lt (at0 xs p) (at0 xs (lo + x))=false/\lt (at0 xs (lo + x)) (at0 xs p)=false:=λp a1 a2=>by
       have b1:=he p (lo + x - 1) a1 a2 (by lia) (by lia)
       have b2:=he (lo + x - 1) p (by lia) (by lia) a1 a2
       exact⟨o.tr _ _ _ (pp _ (by lia)) (pp _ (by lia)) (pp _ (by lia)) e2 b1,o.tr _ _ _ (pp _ (by lia)) (pp _ (by lia)) (pp _ (by lia)) b2 e⟩
      by_cases z1:p=lo + x
      ·by_cases z2:r=lo + x
       ·rw[z1,z2];exact irr o (pp _ (by lia))
       ·rw[z1];exact(low r (by lia) (by lia)).2
      ·by_cases z2:r=lo + x
       ·rw[z2];exact(low p (by lia) (by lia)).1
       ·exact he p r (by lia) (by lia) (by lia) (by lia)
   ·rintro c B ⟨xs,q,rfl,rfl,x2,U,g,hd,he⟩;exact⟨xs,_,q,rfl,rfl,by lia,by lia,U,g,by rwa [show max (1 + 1) nrem=nrem by lia] at hd ⊢,he⟩
   ·rintro c B ⟨xs,n,q,rfl,rfl,N,L,U,g,hd,he⟩;have hxs:xs.size=(aN st).size:=g.size;dsimp only
    by_cases R:q > 0
    ·rw[if_pos R,cZ,cZ];have g2:Gd lo (aN st) (dr xs (lo + n - (q + 1)) (lo + n) ((lo + n - (lo + n - (q + 1))) / 2)):=g.rev (by lia) (by lia) rfl
     have d2:Dn lt (dr xs (lo + n - (q + 1)) (lo + n) ((lo + n - (lo + n - (q + 1))) / 2)) lo (lo + n):=hd.eqs (by lia) he (by lia) rfl
     have s2:=g2.size;have g3:=g2.rev (i:=lo) (j:=lo + n) (Nat.le_refl _) (by lia) rfl
     have O:=d2.rev (i:=lo) (j:=lo + n) (by lia) rfl
     refine au (cI (au (cI ?_)));change wpS _ _ _ _ _ _ (cC st (dr (dr xs (lo + n - (q + 1)) (lo + n) ((lo + n - (lo + n - (q + 1))) / 2)) lo (lo + n) ((lo + n - lo) / 2)));generalize dr (dr xs (lo + n - (q + 1)) (lo + n) ((lo + n - (lo + n - (q + 1))) / 2)) lo (lo + n) ((lo + n - lo) / 2)=zs at g3 O ⊢;refine au (cY (bI (I:=λx c B=>B=cC st zs/\c=(none,x)/\n<=x/\Up lt (zs) lo (lo + x))
      (Q:=λc B=>B=cC st zs/\∃ n,c=(none,n)/\1<=n/\n<=nrem/\Up lt (zs) lo (lo + n)) ?_ ?_ ⟨rfl,rfl,Nat.le_refl _,O⟩) ?_)
     ·rintro x c B _ hx ⟨rfl,rfl,h1,D⟩;dsimp only;refine au (aZe o (i:=lo + x) (j:=lo + x - 1) hk PA g3 (by lia) (by lia) ?_)
      dsimp only;cases e:lt (at0 (zs) (lo + x)) (at0 (zs) (lo + x - 1)) with
      | true=>rw[if_pos rfl];exact aA ⟨rfl,x,rfl,by lia,by lia,D⟩
      | false=>rw[if_neg (by simp)];exact aA ⟨rfl,rfl,by lia,Up.more o (i:=lo) (j:=lo + x) (λp J=>G g3 p (by lia)) D (by lia) e⟩
     ·rintro c B ⟨rfl,rfl,h1,D⟩;exact⟨rfl,_,rfl,by lia,by lia,D⟩
     ·rintro c B ⟨rfl,n,rfl,N,L,D⟩;exact aA (h n (zs) N L g3 D)
    ·rw[if_neg R,cZ];have g3:=g.rev (i:=lo) (j:=lo + n) (Nat.le_refl _) (by lia) rfl
     have O:=hd.rev (i:=lo) (j:=lo + n) (by lia) rfl
     refine au (cI ?_);change wpS _ _ _ _ _ _ (cC st (dr xs lo (lo + n) ((lo + n - lo) / 2)));generalize dr xs lo (lo + n) ((lo + n - lo) / 2)=zs at g3 O ⊢;refine au (cY (bI (I:=λx c B=>B=cC st zs/\c=(none,x)/\n<=x/\Up lt (zs) lo (lo + x))
      (Q:=λc B=>B=cC st zs/\∃ n,c=(none,n)/\1<=n/\n<=nrem/\Up lt (zs) lo (lo + n)) ?_ ?_ ⟨rfl,rfl,Nat.le_refl _,O⟩) ?_)
     ·rintro x c B _ hx ⟨rfl,rfl,h1,D⟩;dsimp only;refine au (aZe o (i:=lo + x) (j:=lo + x - 1) hk PA g3 (by lia) (by lia) ?_)
      dsimp only;cases e:lt (at0 (zs) (lo + x)) (at0 (zs) (lo + x - 1)) with
      | true=>rw[if_pos rfl];exact aA ⟨rfl,x,rfl,by lia,by lia,D⟩
      | false=>rw[if_neg (by simp)];exact aA ⟨rfl,rfl,by lia,Up.more o (i:=lo) (j:=lo + x) (λp J=>G g3 p (by lia)) D (by lia) e⟩
     ·rintro c B ⟨rfl,rfl,h1,D⟩;exact⟨rfl,_,rfl,by lia,by lia,D⟩
     ·rintro c B ⟨rfl,n,rfl,N,L,D⟩;exact aA (h n (zs) N L g3 D)
end
theorem bub_at {xs:Array aI} {src d:Nat} (hs:src < xs.size) (hd:d<=src) (k:Nat) :
  at0 (bubble xs src d) k=if k=src - d then at0 xs src else if src - d < k/\k<=src then at0 xs (k - 1) else at0 xs k:=by
 have e:=getElem?_bubble hs d hd k
 by_cases h1:k=src - d
 ·rw[if_pos h1] at e ⊢;exact cXz e
 ·rw[if_neg h1] at e ⊢
  by_cases h2:src - d < k/\k<=src
  ·rw[if_pos h2] at e ⊢;exact cXz e
  ·rw[if_neg h2] at e ⊢;exact cXz e
section
variable {prog:aC} {w:aO} {A:aY} {E:ad->ai->Prop} {s:ai} {κ:eI} {P:aI->Prop} {lt:aI->aI->Bool} {st:cH} {lo:Nat}
theorem eJj (o:Orc prog w A s κ P lt) {n ok:Nat} {Q:Bool->cH->Prop} (hk:kindOf st=κ) (PA:∀ x∈(aN st).toList,P x) (hs:lo + n<=(aN st).size) (hok:ok<=n) (hu:Up lt (aN st) lo (lo + ok))
  (h:∀ xs,Gd lo (aN st) xs->Up lt xs lo (lo + n)->Q true (cC st xs)):wpS (aF prog w) A E s (binarySort' lo n ok) Q st:=by
 have pP:∀ {xs},Gd lo (aN st) xs->∀ p,p < (aN st).size->P (at0 xs p):=λg p Z=>(gd_P g PA Z).2;have g0:Gd lo (aN st) (aN st):=⟨jg _,λ_ _=>rfl⟩;rw[binarySort'_eq];refine au (cY (bI (I:=λk c D=>∃ xs,D=cC st xs/\c=(none,())/\Gd lo (aN st) xs/\Up lt xs lo (lo + min k n))
  (Q:=λc D=>∃ xs,D=cC st xs/\c=(none,())/\Gd lo (aN st) xs/\Up lt xs lo (lo + n)) ?step ?fin ?init) ?post)
 case post =>
  rintro c D ⟨xs,rfl,rfl,g,hu⟩;exact aA (h xs g hu)
 case init =>
  refine⟨aN st,rfl,rfl,g0,λp q h1 h2 h3=>?_⟩
  by_cases z:ok=0
  ·lia
  ·exact hu p q h1 h2 (by lia)
 case fin =>
  rintro c D ⟨xs,rfl,rfl,g,hu⟩;refine⟨xs,rfl,rfl,g,?_⟩;rwa [show min (max (max ok 1) n) n=n by lia] at hu
 case step =>
  rintro k c D hak hkn ⟨xs,rfl,rfl,g,hu⟩;rw[show min k n=k by lia] at hu
  have hxs:xs.size=(aN st).size:=g.size;have pp:∀ p,p < lo + n->P (at0 xs p):=λp Z=>pP g p (by lia)
  dsimp only;refine au (cY (bI (I:=λx c B=>B=cC st xs/\∃ l r,c=(none,l,r)/\l<=r/\r<=k/\r - l<=k - x /\
    (∀ i,i < l->lt (at0 xs (lo + k)) (at0 xs (lo + i))=false)/\(∀ i,r<=i->i < k->lt (at0 xs (lo + i)) (at0 xs (lo + k))=false))
   (Q:=λc B=>B=cC st xs/\∃ l r,c=(none,l,r)/\l<=k /\
    (∀ i,i < l->lt (at0 xs (lo + k)) (at0 xs (lo + i))=false)/\(∀ i,l<=i->i < k->lt (at0 xs (lo + i)) (at0 xs (lo + k))=false)) ?istep ?ifin ?iinit) ?ipost)
  case iinit=>exact⟨rfl,0,k,rfl,by lia,by lia,by lia,λi hi=>by lia,λi h1 h2=>by lia⟩
  case ifin =>
   rintro c B ⟨rfl,l,r,rfl,Y,L,hm,G,J⟩
   have:l=r:=by lia
   subst this;exact⟨rfl,l,l,rfl,L,G,J⟩
  case istep =>
   rintro x c B _ hxk ⟨rfl,l,r,rfl,Y,L,hm,G,J⟩;dsimp only
   by_cases U:l >= r
   ·rw[if_pos U]
    have:l=r:=by lia
    subst this;exact aA ⟨rfl,l,l,rfl,L,G,J⟩
   ·rw[if_neg U];refine au (aZe o hk PA g (i:=lo + k) (j:=lo + (l + r) / 2) (by lia) (by lia) ?_)
    dsimp only;cases e:lt (at0 xs (lo + k)) (at0 xs (lo + (l + r) / 2)) with
    | true =>
     rw[if_pos rfl];refine aA ⟨rfl,l,(l + r) / 2,rfl,by lia,by lia,by lia,G,λi h1 h2=>?_⟩
     have e2:=o.as _ _ (pp _ (by lia)) (pp _ (by lia)) e
     rcases Nat.eq_or_lt_of_le h1 with z | z
     ·rw[<- z];exact e2
     ·exact o.tr _ _ _ (pp _ (by lia)) (pp (lo + (l + r) / 2) (by lia)) (pp _ (by lia)) e2 (hu _ _ (by lia) (by lia) (by lia))
    | false =>
     rw[if_neg (by simp)]
     refine aA ⟨rfl,(l + r) / 2 + 1,r,rfl,by lia,by lia,by lia,λi h1=>?_,J⟩
     rcases Nat.eq_or_lt_of_le (show i<=(l + r) / 2 by lia) with z | z
     ·rw[z];exact e
     ·exact o.tr _ _ _ (pp _ (by lia)) (pp (lo + (l + r) / 2) (by lia)) (pp _ (by lia)) (hu _ _ (by lia) (by lia) (by lia)) e
  case ipost =>
   rintro c B ⟨rfl,l,r,rfl,hlk,G,J⟩;show wpS _ _ _ _ (do moveDown' (lo + k) (lo + l);pure (bn (none,()))) _ _
   rw[moveDown'_eq];have N:lo + k < xs.size:=by lia
   have ed:lo + k - (lo + l)=k - l:=by lia
   refine au (cI (aA ⟨bubble xs (lo + k) (lo + k - (lo + l)),rfl,rfl,⟨(bubble_perm _ _ _).trans g.1,λi hi=>?_⟩,?_⟩))
   ·rw[getElem?_bubble N _ (by lia),if_neg (by lia),if_neg (by lia)]
    exact g.2 i hi
   ·rw[show min (k + 1) n=k + 1 by lia]
    intro p q h1 h2 h3;rw[bub_at N (by lia),bub_at N (by lia),show lo + k - (lo + k - (lo + l))=lo + l by lia]
    have O:∀ i,lo<=i->i < lo + l->lt (at0 xs (lo + k)) (at0 xs i)=false:=λi a b=>by
     have:=G (i - lo) (by lia)
     rwa [show lo + (i - lo)=i by lia] at this
    have R:∀ i,lo + l<=i->i < lo + k->lt (at0 xs i) (at0 xs (lo + k))=false:=λi a b=>by
     have:=J (i - lo) (by lia) (by lia)
     rwa [show lo + (i - lo)=i by lia] at this
    repeat' split
    all_goals first
     | (exfalso;lia)
     | exact O _ (by lia) (by lia)
     | exact R _ (by lia) (by lia)
     | exact hu _ _ (by lia) (by lia) (by lia)
end
def offs:Nat->List (List aI)->List (Nat × Nat)
 | _,[]=>[]
 | k,s::ss=>(k,s.length)::offs (k + s.length) ss
theorem bZf:∀ k ss,(offs k ss).length=ss.length
 | _,[]=>rfl
 | k,s::ss=>by simp[offs,bZf]
theorem aJf:∀ k (s1 s2:List (List aI)),offs k (s1++s2)=offs k s1++offs (k + s1.flatten.length) s2
 | k,[],s2=>by simp[offs]
 | k,s::s1,s2=>by simp[offs,aJf,Nat.add_assoc]
def sl (x:Nat × Nat × Nat):Nat × Nat:=(x.1,x.2.1)
structure Pn (κ:eI) (P:aI->Prop) (lt:aI->aI->Bool) (a0:List aI) (st:cH) (segs:List (List aI)) (rest:List aI):Prop where
 kind:kindOf st=κ
 fl:ff st=none
 arr:(aN st).toList=segs.flatten++rest
 perm:(aN st).toList.Perm a0
 sd:∀ sg∈segs,Sd lt sg/\sg≠[]
 pd:(bF st).toList.map sl=offs 0 segs
section
variable {prog:aC} {w:aO} {A:aY} {E:ad->ai->Prop} {s:ai} {κ:eI} {P:aI->Prop} {lt:aI->aI->Bool} {st:cH} {a0 rest:List aI} {segs:List (List aI)}
theorem Pn.psize (h:Pn κ P lt a0 st segs rest):(bF st).size=segs.length:=by
 have:=congrArg e8 h.pd
 rwa [aj,bZf,aK] at this
theorem Pn.size (h:Pn κ P lt a0 st segs rest):(aN st).size=a0.length:=by rw[<- aK];exact h.perm.length_eq
theorem Pn.room (h:Pn κ P lt a0 st segs rest):segs.flatten.length + rest.length=a0.length:=by rw[<- av,<- h.arr];exact h.perm.length_eq
theorem dXm (o:Orc prog w A s κ P lt) (PA:∀ x∈a0,P x) (h:Pn κ P lt a0 st segs rest) {i:Nat} (hi:i + 1 < segs.length) {Q:Bool->cH->Prop}
  (hq:∀ st' segs',Pn κ P lt a0 st' segs' rest->segs'.length + 1=segs.length->segs'.flatten.length=segs.flatten.length->Q true st'):wpS (aF prog w) A E s (mergeAt' i) Q st:=by
 obtain⟨S1,j,D,J,rfl,rfl⟩:∃ S1 j D J,segs=S1++j::D::J/\S1.length=i:=by
  refine⟨segs.take i,segs[i],segs[i + 1],segs.drop (i + 2),?_,by rw[aQ];lia⟩
  rw[<- bY hi,<- bY (by lia),bj]
 have G:=h.pd;rw[aJf,Nat.zero_add] at G;obtain⟨p1,Z,e1,e2,Y⟩:=List.map_eq_append_iff.mp G;simp only[offs] at Y;obtain⟨x,R,rfl,ex,e4⟩:=List.map_eq_cons_iff.mp Y;obtain⟨y,p2,rfl,ey,e5⟩:=List.map_eq_cons_iff.mp e4;have B:p1.length=S1.length:=by rw[<- aj (f:=sl),e2,bZf]
 have g1:(bF st)[S1.length]?=some (S1.flatten.length,j.length,x.2.2):=by
  rw[<- aM,e1,<- B,bU (Nat.le_refl _),Nat.sub_self,iV];obtain⟨x1,x2,x3⟩:=x;cases ex;rfl
 have g2:(bF st)[S1.length + 1]?=some (S1.flatten.length + j.length,D.length,y.2.2):=by
  rw[<- aM,e1,<- B,bU (by lia),Nat.add_sub_cancel_left,iM,iV]
  obtain⟨y1,y2,y3⟩:=y;cases ey;rfl
 have N:=h.sd j (by simp)
 have sB:=h.sd D (by simp)
 have hl:(aN st).toList=S1.flatten++(j++(D++(J.flatten++rest))):=by rw[h.arr];simp
 have pm:∀ x∈j++D,P x:=λx q=>PA x (h.perm.mem_iff.mp (by rw[hl];simp at q ⊢;grind))
 refine eJh o h.kind h.fl g1 g2 rfl hl rfl rfl rfl (eC.mpr N.2) (eC.mpr sB.2) (λx q=>pm x (bZ _ q)) (λx q=>pm x (aU _ q)) N.1 sB.1 λC g xs q hC U=>?_;have L:=U.length_eq;rw[av] at L;refine hq _ (S1++C::J) ⟨rfl,rfl,?_,?_,λsg O=>?_,?_⟩ (by simp only[av,aV];lia) (by simp;lia)
 ·show xs.toList=_;rw[q];simp
 ·show xs.toList.Perm _;refine ju.trans ?_ h.perm;rw[q,hl];refine d0 _ ?_
  have:=dQ (J.flatten++rest) U
  rwa [aZ j] at this
 ·rcases ar.mp O with z | z
  ·exact h.sd sg (by simp[z])
  ·rcases aB.mp z with rfl | z
   ·exact⟨hC,λe=>by
     have:=eC.mpr N.2
     rw[e] at L;simp at L;lia⟩
   ·exact h.sd sg (by simp[z])
 ·show(((bF st).setIfInBounds S1.length (S1.flatten.length,j.length + D.length,x.2.2)).eraseIdxIfInBounds (S1.length + 1)).toList.map sl=_;rw[Array.toList_eraseIdxIfInBounds,ic,e1,<- B,List.set_append_right _ _ (Nat.le_refl _),Nat.sub_self,List.set_cons_zero,List.eraseIdx_append_of_length_le (by lia),Nat.add_sub_cancel_left,List.eraseIdx_cons_succ,List.eraseIdx_cons_zero,bS,bi,e2,e5,aJf]
  simp[offs,sl,L,Nat.add_assoc]
theorem Pn.next (h:Pn κ P lt a0 st segs rest) {xs:Array aI} {n:Nat} (hn:1<=n) (hs:segs.flatten.length + n<=a0.length) (g:Gd segs.flatten.length (aN st) xs) (hu:Up lt xs segs.flatten.length (segs.flatten.length + n)) :
  ∃ sg rest',sg.length=n/\Sd lt sg/\sg≠[]/\Pn κ P lt a0 (cC st xs) segs (sg++rest'):=by
 have J:xs.toList.length=a0.length:=by rw[aK,g.size,h.size]
 have B:xs.toList.take segs.flatten.length=segs.flatten:=by
  have:(aN st).toList.take segs.flatten.length=segs.flatten:=by rw[h.arr,cS (Nat.le_refl _),dX]
  rw[<- this];refine d8 λi=>?_;rw[List.getElem?_take,List.getElem?_take,this]
  split
  ·next hi=>rw[aM,aM];exact g.2 i hi
  ·rfl
 refine⟨(xs.toList.drop segs.flatten.length).take n,(xs.toList.drop segs.flatten.length).drop n,by rw[aQ,bq];lia,?_,λe=>?_,h.kind,h.fl,?_,?_,h.sd,h.pd⟩
 ·refine cr.mpr λi j hi D G=>?_;rw[aQ,bq] at hi D
  have:=hu (segs.flatten.length + i) (segs.flatten.length + j) (by lia) (by lia) (by lia)
  have z:∀ k,segs.flatten.length + k < xs.toList.length->∀ q,((xs.toList.drop segs.flatten.length).take n)[k]'q=at0 xs (segs.flatten.length + k):=λk h1 q=>by
   rw[f6,f7];unfold at0;rw[<- aM,af h1]
   rfl
  rw[z i (by lia),z j (by lia)]
  exact this
 ·have:=congrArg e8 e
  rw[aQ,bq,dN] at this;lia
 ·show xs.toList=_;rw[bj]
  conv=>lhs;rw[<- bj segs.flatten.length xs.toList,B]
 ·exact(cJ.mp g.1).trans h.perm
theorem Pn.push {sg rest':List aI} (h:Pn κ P lt a0 st segs (sg++rest')) (hs:Sd lt sg) (hne:sg≠[]) {lo n:Nat} (hlo:segs.flatten.length=lo) (hn:sg.length=n):Pn κ P lt a0 (fh st ((bF st).push (lo,n,0))) (segs++[sg]) rest':=by
 subst hlo hn;refine⟨h.kind,h.fl,?_,h.perm,λx j=>?_,?_⟩
 ·show(aN st).toList=_;rw[h.arr];simp
 ·rcases ar.mp j with z | z
  ·exact h.sd x z
  ·rw[aE.mp z];exact⟨hs,hne⟩
 ·show((bF st).push _).toList.map sl=_;rw[b4,bS,h.pd,aJf];simp[offs,sl]
theorem Pn.repow (h:Pn κ P lt a0 st segs rest) (i pw:Nat):Pn κ P lt a0 (fh st ((bF st).modify i λx=>(x.1,x.2.1,pw))) segs rest:=by
 refine⟨h.kind,h.fl,h.arr,h.perm,h.sd,?_⟩;show((bF st).modify i _).toList.map sl=_;rw[<- h.pd,Array.toList_modify];refine d8 λj=>?_;rw[ba,ba,List.getElem?_modify]
 by_cases c:i=j
 ·simp only[c,if_true];cases (bF st).toList[j]? <;> rfl
 ·simp only[c,if_false];cases (bF st).toList[j]? <;> rfl
theorem cQj:∀ (ss:List (List aI)),(∀ sg∈ss,sg≠[])->ss.length<=ss.flatten.length
 | [],_=>Nat.le_refl _
 | s::ss,h=>by
  have:=cQj ss λx j=>h x (.tail _ j)
  have:=eC.mpr (h s (.head _))
  rw[List.flatten_cons,av,aV];lia
end
section
variable {prog:aC} {w:aO} {A:aY} {E:ad->ai->Prop} {s:ai} {κ:eI} {P:aI->Prop} {lt:aI->aI->Bool} {st:cH} {a0 rest:List aI} {segs:List (List aI)}
theorem eQ7 (o:Orc prog w A s κ P lt) (PA:∀ x∈(aN st).toList,P x) (hk:kindOf st=κ) (hf:ff st=none) (hp:bF st=#[]) {Q:Unit->cH->Prop}
  (h:∀ st',(aN st').toList.Perm (aN st).toList->ff st'=none->Sd lt (aN st').toList->Q () st'):wpS (aF prog w) A E s sortRuns' Q st:=by
 have h0:Pn κ P lt (aN st).toList st [] (aN st).toList:=⟨hk,hf,rfl,c9 _,λ_ J=>absurd J eG,by rw[hp];rfl⟩
 have pA:∀ {st' segs rest},Pn κ P lt (aN st).toList st' segs rest->∀ x∈(aN st').toList,P x:=λI x J=>PA x (I.perm.mem_iff.mp J);rw[sortRuns'_eq];refine au (gS ?_);dsimp only;have lz:(aN st).toList.length=(aN st).size:=aK;refine au (cY (bI
  (I:=λx c st'=>∃ segs rest,c=(none,segs.flatten.length)/\Pn κ P lt (aN st).toList st' segs rest/\x<=segs.flatten.length)
  (Q:=λc st'=>∃ segs,c=(none,segs.flatten.length)/\Pn κ P lt (aN st).toList st' segs []) ?step ?fin ⟨[],_,rfl,h0,Nat.le_refl _⟩) ?post)
 case fin =>
  rintro c st' ⟨segs,rest,rfl,I,J⟩;have r:=I.room;obtain rfl:rest=[]:=bV (by lia)
  exact⟨segs,rfl,I⟩
 case post =>
  rintro c st' ⟨segs,rfl,I⟩;have r:=I.room;rw[dN] at r;have fl:=cQj segs λsg hsg=>(I.sd sg hsg).2;dsimp only;refine au (cY (bI (I:=λx c st'=>∃ segs,c=(none,())/\Pn κ P lt (aN st).toList st' segs []/\(segs.length<=1\/segs.length + x<=(aN st).size))
   (Q:=λc st'=>∃ segs,c=(none,())/\Pn κ P lt (aN st).toList st' segs []/\segs.length<=1) ?_ ?_ ⟨segs,rfl,I,by lia⟩) ?_)
  ·rintro x c st' _ J ⟨segs,rfl,I,hc⟩;refine au (gS ?_);have hps:=I.psize
   by_cases U:(bF st').size<=1
   ·rw[if_pos U];exact aA ⟨segs,rfl,I,by lia⟩
   ·rw[if_neg U];have hi:∀ b:Bool,(if b=true then (bF st').size - 2 - 1 else (bF st').size - 2) + 1 < segs.length:=λb=>by split <;> lia
    refine au (dXm o PA I (hi _) λD j R l2 _=>?_);exact aA ⟨j,rfl,R,by lia⟩
  ·rintro c st' ⟨segs,rfl,I,hc⟩;exact⟨segs,rfl,I,by lia⟩
  ·rintro c st' ⟨segs,rfl,I,hc⟩;refine aA (h st' I.perm I.fl ?_);rw[I.arr,ci]
   match segs,hc,I with
   | [],_,_=>exact d6
   | [sg],_,I=>rw[dR];exact(I.sd sg (.head _)).1
 case step =>
  rintro x c st' _ J ⟨segs,rest,rfl,I,hxs⟩;have r:=I.room;have sz:=I.size;dsimp only
  by_cases U:segs.flatten.length >= (aN st).size
  ·rw[if_pos U];obtain rfl:rest=[]:=bV (by lia)
   exact aA ⟨segs,rfl,I⟩
  rw[if_neg U];refine au (eJi o I.kind (pA I) (lo:=segs.flatten.length) (by lia) (by lia) λn xs n1 n2 g hu=>?_)
  dsimp only
  by_cases c2:n < minRun' (aN st).size (aN st).size 0
  rw[if_pos c2];refine au (h9 (c7 ⟨rfl,?_⟩));refine au (eJj o (st:=cC st' xs) I.kind (λx J=>pA I x ((cJ.mp g.1).mem_iff.mp J)) (by have:=g.size;show _<=xs.size;lia) (by lia) hu λys g2 Z=>?_)
  rw[if_neg (by simp)]
  obtain⟨sg,q,ls,hs,G,R⟩:=I.next (by lia) (by lia) ⟨g2.1.trans g.1,λi hi=>(g2.2 i hi).trans (g.2 i hi)⟩ Z
  change Pn κ P lt _ (cC (cC st' xs) ys) _ _ at R
  rotate_left
  rw[if_neg c2];obtain⟨sg,q,ls,hs,G,R⟩:=I.next n1 (by lia) g hu
  all_goals
   have lp:=eC.mpr G;refine au (gS ?_)
   split
   next s1 n1' _ hb =>
    refine au (cY (bI (I:=λ_ c B=>∃ j,c=(none,())/\Pn κ P lt (aN st).toList B j (sg++q)/\j.flatten.length=segs.flatten.length)
     (Q:=λc B=>∃ j,c=(none,())/\Pn κ P lt (aN st).toList B j (sg++q)/\j.flatten.length=segs.flatten.length) ?_ (λ_ _ hh=>hh) ⟨segs,rfl,R,rfl⟩) ?_)
    ·rintro y c D _ hy ⟨j,rfl,O,N⟩;refine au (gS ?_);have hps:=O.psize
     split
     next Y he =>
      have hgt:(bF D).size > 1:=by
       by_cases z:(bF D).size > 1
       ·exact z
       ·rw[if_neg z] at he;cases he
      split
      ·exact aA ⟨j,rfl,O,N⟩
      ·refine au (dXm o PA O (by lia) λst4 L I4 _ l4=>?_)
       exact aA ⟨L,rfl,I4,l4.trans N⟩
     next=>exact aA ⟨j,rfl,O,N⟩
    ·rintro c D ⟨j,rfl,O,N⟩;dsimp only;refine au (cI (au (cI (aA ⟨j++[sg],q,?_,(O.repow _ _).push hs G N ls,?_⟩))))
     ·rw[eD,av,dR,ls,N]
     ·rw[eD,av,dR,N];lia
   next =>
    refine au (cI (aA ⟨segs++[sg],q,?_,R.push hs G rfl ls,?_⟩))
    ·rw[eD,av,dR,ls]
    ·rw[eD,av,dR];lia
end
theorem aX0 {α:Type}:∀ {l:List α} {x y:α},(x,y)∈l.zip l->x=y/\x∈l
 | a::l,x,y,h=>by
  rw[eR] at h;rcases aB.mp h with e | h
  ·cases e;exact⟨rfl,.head _⟩
  ·exact⟨(aX0 h).1,.tail _ (aX0 h).2⟩
section
variable {prog:aC} {w:aO} {A:aY} {E:ad->ai->Prop} {s:ai}
theorem dZ7 {α:Type} {R:α->α->Prop}:∀ l:List α,l.length < 2->l.Pairwise R
 | [],_=>.nil
 | [x],_=>bJ _ _
theorem sort_any {a:Addr} {vs:List ad} {n:Nat} {P:gV->ai->Prop} (lt:ad->ad->Bool) (hz:vs.length<=sizeLine) (ho:s.heap.get? a=some (cm "list" vs.toArray n))
  (H:∀ h2:a9,(∀ b o,b≠a->s.heap.get? b=some o->h2.get? b=some o)->2<=vs.length->∀ (Q:eI->ai->Prop),(∀ κ,Orc prog w A { s with heap:=h2 } κ (λx=>x.1∈vs) (λx y=>lt x.1 y.1)->Q κ { s with heap:=h2 })->aD (aF prog w) A (keyKind' vs.toArray) Q E { s with heap:=h2 })
  (h:∀ xs:Array aI,xs.Perm (gD vs)->xs.toList.Pairwise (λx y=>lt y.1 x.1=false)->P (.done (.ret .none)) { s with heap:=gy s.heap a vs (xs.map (·.2)) }) :
  aD (aF prog w) A (cg.«list.sort» ⟨[.ref a],[]⟩) P E s:=by
 rw[list_sort_plain];have R:a < s.heap.objs.size:=az ho;refine aa (listItems_at ho rfl ?_);refine aa (listUpdate_at ho rfl ?_ (by rw[am];exact hz) (Nat.zero_le _))
 obtain⟨e1,z⟩:∃ e1,(s.heap.update a (bK λ_=>#[])).get? a=some (cm "list" #[] e1):=⟨_,fM ho (λ_=>#[])⟩;refine aa (seqEpoch_at z rfl ?_);refine aa (wpAny_newTuple ?_ (by show vs.length<=_;exact hz))
 refine aa (iB ?_ (Nat.zero_le _));refine bh ?_;have G:=bW s.heap a (bK λ_=>(#[]:Array ad));have q:(((s.heap.update a (bK λ_=>#[])).push (cm "tuple" vs.toArray 0)).push (cm "list" #[] 0)).get? a=some (cm "list" #[] e1):=ag _ (ag _ z);have kp:∀ b o,b≠a->s.heap.get? b=some o->(((s.heap.update a (bK λ_=>#[])).push (cm "tuple" vs.toArray 0)).push (cm "list" #[] 0)).get? b=some o:=λb o N e=>ag _ (ag _ ((G.2 b N).trans e));show aD (aF prog w) A _ P E { s with heap:=((s.heap.update a (bK λ_=>#[])).push (cm "tuple" vs.toArray 0)).push (cm "list" #[] 0) }
 dsimp only;have B:(gD vs).size=vs.length:=pairsOf_size vs
 by_cases h2:vs.toArray.size < 2
 ·rw[if_pos h2,if_pos h2];refine aa (ae ?_);rw[StateT.run_pure];refine aa (ae ?_);dsimp only;refine aa (seqEpoch_at q rfl ?_);refine aa (listUpdate_at q rfl ?_ (Nat.zero_le _) (by rw[jq];show(gD vs).size<=_;rw[B];exact Nat.le_succ_of_le hz))
  simp only[bne_self_eq_false,aL,if_false];refine ae (h (gD vs) (jg _) ?_)
  have:(gD vs).toList.length < 2:=by rw[aK,B];simpa using h2
  exact dZ7 _ this
 ·rw[if_neg h2,if_neg h2];refine aa (H _ kp (by simpa using h2) _ fun κ o=>?_)
  refine aa (c6 (eQ7 o (st:=h8 κ (vs.toArray.zip vs.toArray) #[] 7 none) (Q:=λ_ j=>(aN j).toList.Perm (gD vs).toList/\ff j=none/\Sd (λx y:aI=>lt x.1 y.1) (aN j).toList)
   (λx J=>(aX0 (x:=x.1) (y:=x.2) (by rw[<- ie];exact J)).2) rfl rfl rfl λj a1 a2 O=>⟨a1,a2,O⟩) ?_ λ_ _ e=>e)
  rintro⟨⟨⟩,j⟩ s' ⟨rfl,D,hf,L⟩;dsimp only;refine aa (seqEpoch_at q rfl ?_);refine aa (listUpdate_at q rfl ?_ (Nat.zero_le _) (by rw[jq,<- aK,D.length_eq,aK,B];exact Nat.le_succ_of_le hz))
  rw[hf];simp only[bne_self_eq_false,aL,if_false];exact ae (h _ (cJ.mpr D) L)
theorem treeK {κ:KeyKind} (hO:κ.OneLt) {a:Addr} {vs:List ad} {n:Nat} {P:gV->ai->Prop} (ho:s.heap.get? a=some (cm "list" vs.toArray n))
  (h0:KeysOf κ (gD vs)) (hkk:∀ v₁ v₂ rest,vs=v₁::v₂::rest->keyKind' (v₁::v₂::rest).toArray=pure oneType') (hz:vs.length<=sizeLine)
  (h:∀ st':cH,(aN st').Perm (gD vs)->SortedToK κ (aN st') (gD vs).size->P (.done (.ret .none)) { s with heap:=gy s.heap a vs ((aN st').map (·.2)) }) :
  aD (aF prog w) A (cg.«list.sort» ⟨[.ref a],[]⟩) P E s:=by
 have key:∀ v∈vs,∃ x,κ.keyOf v=some x:=λv Z=>h0 (v,v) (by
  rw[ie];obtain⟨i,hi,e⟩:=bB Z;exact List.mem_iff_getElem.mpr ⟨i,by simpa using hi,by simp[e]⟩)
 refine sort_any (λu v=>κ.blt ((κ.keyOf u).getD κ.dflt) ((κ.keyOf v).getD κ.dflt)) hz ho (λh2 kp N Q hq=>?_) λxs D hs=>h (h8 oneType' xs #[] 7 none) D λi j L hj=>?_
 ·obtain⟨v₁,v₂,rest,rfl⟩:∃ v₁ v₂ rest,vs=v₁::v₂::rest:=by
   match vs,N with
   | v₁::v₂::rest,_=>exact⟨v₁,v₂,rest,rfl⟩
  rw[hkk _ _ _ rfl];refine ae (hq _ ⟨λx y Q Y U q=>?_,λx y _ _ e=>KeyOrd.klt_asymm e,λx y z _ _ _ e1 e2=>KeyOrd.kle_trans e1 e2⟩);obtain⟨p,D⟩:=key _ Y;obtain⟨R,B⟩:=key _ U;rw[keyLt'_oneType];refine hO _ _ _ _ _ _ _ p R D B ?_;rw[D,B] at q;exact q
 ·show κ.kle (KK κ xs i) (KK κ xs j);rcases Nat.eq_or_lt_of_le L with rfl | G
  ·exact KeyOrd.kle_refl _
  ·have sz:=D.size_eq;have O:∀ k (J:k < xs.size),KK κ xs k=(κ.keyOf (xs.toList[k]'(by simpa using J)).1).getD κ.dflt:=λk J=>by
    unfold KK;rw[<- aM,af (by simpa using J)]
   rw[O i (by lia),O j (by lia)]
   exact cr.mp hs i j (by simp;lia) (by simp;lia) G
def iv:ad->Int
 | .int n _=>n
 | _=>0
theorem treeI {a:Addr} {vs:List ad} {ns:List Int} {n:Nat} {P:gV->ai->Prop} (ho:s.heap.get? a=some (cm "list" vs.toArray n)) (hI:gP vs ns) (hz:vs.length<=sizeLine)
  (h:∀ (out:Array ad) (ns':List Int),gP out.toList ns'->ns'.Perm ns->ns'.Pairwise (·<=·)->P (.done (.ret .none)) { s with heap:=gy s.heap a vs out }) :
  aD (aF prog w) A (cg.«list.sort» ⟨[.ref a],[]⟩) P E s:=by
 have key:∀ v∈vs,∃ x t,v=.int x t:=λv hv=>hI.intKeys (v,v) (by
  rw[ie];obtain⟨i,hi,e⟩:=bB hv;exact List.mem_iff_getElem.mpr ⟨i,by simpa using hi,by simp[e]⟩)
 refine sort_any (λu v=>decide (iv u < iv v)) hz ho (λh2 kp R Q hq=>?_) λxs G hs=>?_
 ·obtain⟨D,B,rest,rfl⟩:∃ D B rest,vs=D::B::rest:=by
   match vs,R with
   | D::B::rest,_=>exact⟨D,B,rest,rfl⟩
  rw[keyKind_ints hI];refine ae (hq _ ⟨λx y Q Z Y q=>?_,λx y _ _ e=>by simp at e ⊢;lia,λx y z _ _ _ e1 e2=>by simp at e1 e2 ⊢;lia⟩)
  obtain⟨p,t,G⟩:=key _ Z;obtain⟨p',t',L⟩:=key _ Y;rw[keyLt'_oneType];rw[G,L] at q ⊢;exact oneLt_int q
 ·have sz:=G.size_eq;obtain⟨ns',h1,h2,h3⟩:=sorted_out hI G (λi j O hj=>by
   rcases Nat.eq_or_lt_of_le O with rfl | N
   ·exact Int.le_refl _
   ·have U:∀ k (J:k < xs.size),K xs k=iv (xs.toList[k]'(by simpa using J)).1:=λk J=>by
     have hm:xs.toList[k]'(by simpa using J)∈(gD vs).toList:=(cJ.mp G).mem_iff.mp (cM _)
     obtain⟨p,t,e⟩:=hI.intKeys _ hm;unfold K;rw[<- aM,af (by simpa using J)]
     generalize xs.toList[k]'(by simpa using J)=z at e
     obtain⟨z1,z2⟩:=z;cases e
     rfl
    rw[U i (by lia),U j (by lia)]
    have:=cr.mp hs i j (by simp;lia) (by simp;lia) N
    have:=of_decide_eq_false this
    lia)
  exact h _ ns' h1 h2 h3
end
end SF
set_option maxHeartbeats 1000000
namespace HT
open PySem
theorem ltS_tot {a b:Str} (h:ltS a b=false) (hne:a≠b):ltS b a=true:=by
 unfold ltS at *
 refine decide_eq_true ?_;have h1:=of_decide_eq_false h;refine aJ λh2=>hne ?_;have e:a.cps.toList=b.cps.toList:=List.le_antisymm (List.not_lt.mp h2) (List.not_lt.mp h1);cases a;cases b
 congr 1
 exact iW.mp e
theorem ltS_tr {a b c:Str} (h:ltS a b=true) (h':ltS b c=true):ltS a c=true:=decide_eq_true (List.lt_trans (of_decide_eq_true h) (of_decide_eq_true h'))
theorem ltS_ir (a:Str):ltS a a=false:=decide_eq_false (List.lt_irrefl _)
theorem ltS_as {a b:Str} (h:ltS a b=true):ltS b a=false:=decide_eq_false (List.lt_asymm (of_decide_eq_true h))
theorem lexS_tot:∀ {a b:List Str},lexS a b=false->a≠b->lexS b a=true
 | [],[],_,h=>absurd rfl h
 | [],_::_,h,_=>by cases h
 | _::_,[],_,_=>rfl
 | x::xs,y::ys,h,j=>by
  rw[lexS_cons] at h ⊢
  by_cases e:x=y
  ·rw[if_pos e] at h;rw[if_pos e.symm];exact lexS_tot h λz=>j (by rw[e,z])
  ·rw[if_neg e] at h;rw[if_neg λz=>e z.symm];exact ltS_tot h e
theorem lexS_as:∀ {a b:List Str},lexS a b=true->lexS b a=false
 | [],[],h=>by cases h
 | [],_::_,_=>rfl
 | _::_,[],h=>by cases h
 | x::xs,y::ys,h=>by
  rw[lexS_cons] at h ⊢
  by_cases e:x=y
  ·rw[if_pos e] at h;rw[if_pos e.symm];exact lexS_as h
  ·rw[if_neg e] at h;rw[if_neg (λz=>e z.symm)];exact ltS_as h
theorem lexS_tr:∀ {a b c:List Str},lexS a b=true->lexS b c=true->lexS a c=true
 | [],[],_,h,_=>by cases h
 | [],_::_,[],_,h=>by cases h
 | [],_::_,_::_,_,_=>rfl
 | _::_,[],_,h,_=>by cases h
 | _::_,_::_,[],_,h=>by cases h
 | x::xs,y::ys,z::zs,h,h'=>by
  rw[lexS_cons] at h h' ⊢
  by_cases e:x=y
  ·subst e;rw[if_pos rfl] at h
   by_cases j:x=z
   ·rw[if_pos j] at h' ⊢;exact lexS_tr h h'
   ·rw[if_neg j] at h' ⊢;exact h'
  ·rw[if_neg e] at h
   by_cases j:y=z
   ·subst j;rw[if_neg e];exact h
   ·rw[if_neg j] at h';have hxz:=ltS_tr h h'
    have:x≠z:=by rintro rfl;rw[ltS_ir] at hxz;cases hxz
    rw[if_neg this];exact hxz
end HT
namespace KS
open PySem PySem.W PyProof.Rows
theorem paired_idx {α β:Type} {F:α->β->Prop} {l:List α} {m:List β} (p:bb F l m) (a:α) (b:β):∀ (idx:List Nat),(∀ i∈idx,i < l.length)->bb F (idx.map λi=>l.getD i a) (idx.map λi=>m.getD i b)
 | [],_=>.nil
 | i::idx,h=>by
  refine .cons ?_ (paired_idx p a b idx λj z=>h j (aq _ z));have hi:=h i ao;obtain⟨y,q,hf⟩:=L2.Paired.get' p (af hi);show F (l.getD i a) (m.getD i b);rw[ah,ah,q,af hi];exact hf
theorem TS.keep {h h':a9} {v:ad} {d:List Str} (t:TS h v d) (k:∀ b o,h.get? b=some o->o.cls=.type "tuple"->h'.get? b=some o):TS h' v d:=by
 obtain⟨b,items,e,⟨o,q,j,r⟩,p⟩:=t;exact⟨b,items,e,⟨o,k b o q j,j,r⟩,p⟩
section
variable {prog:aC} {w:aO} {A:aY} {E:ad->ai->Prop} {s:ai}
theorem TS.uniq {h:a9} {v:ad} {d d':List Str} (t:TS h v d) (t':TS h v d'):d=d':=by
 obtain⟨b,items,rfl,⟨o,D,O,n,hd⟩,p⟩:=t;obtain⟨U,j,e,⟨o',ho',B,R,hd'⟩,L⟩:=t';cases e;rw[D] at ho';cases ho';rw[hd] at hd';cases hd';clear hd D O B;have go:∀ {l:List ad} {d d':List Str},HT.SAre l d->HT.SAre l d'->d=d':=by
  intro l d d' p
  induction p generalizing d' with
  | nil=>intro q;cases q;rfl
  | cons z _ N =>
   intro q;cases q with
   | cons G J =>
    obtain⟨t,e⟩:=z;obtain⟨t',e'⟩:=G;rw[e] at e';cases e';rw[N J]
 exact go p L
open Classical in
noncomputable def dec (h:a9) (v:ad):List Str:=if e:∃ d,TS h v d then e.choose else []
theorem cJ0 {h:a9} {v:ad} {d:List Str} (t:TS h v d):dec h v=d:=by
 unfold dec;have e:∃ d,TS h v d:=⟨d,t⟩;rw[dif_pos e];exact e.choose_spec.uniq t
theorem eQ8 {a b c:List Str} (h1:HT.lexS b a=false) (h2:HT.lexS c b=false):HT.lexS c a=false:=by
 cases e:HT.lexS c a with
 | false=>rfl
 | true =>
  by_cases z:b=a
  ·subst z;rw[h2] at e;cases e
  ·have:=HT.lexS_tr e (HT.lexS_tot h1 z)
   rw[h2] at this;cases this
theorem dZ8 {α β:Type} {f:α->β} {l:List β} {k:List β} (h:l.Perm k):∀ {m:List α},k=m.map f->∃ m':List α,m'.Perm m/\l=m'.map f:=by
 induction h with
 | nil=>exact λe=>⟨_,c9 _,e⟩
 | cons x _ J =>
  intro m e;cases m with
  | nil=>cases e
  | cons a m =>
   rw[bi] at e;injection e with e1 e2
   obtain⟨m',p,q⟩:=J e2;exact⟨a::m',p.cons a,by rw[bi,q,e1]⟩
 | swap x y l =>
  intro m e;cases m with
  | nil=>cases e
  | cons a m =>
   cases m with
   | nil=>simp at e
   | cons b m =>
    rw[bi,bi] at e;injection e with e1 e2
    injection e2 with e2 L
    exact⟨b::a::m,.swap _ _ _,by rw[bi,bi,e1,e2,L]⟩
 | trans p q z j =>
  intro m e;obtain⟨N,D,e1⟩:=j e;obtain⟨G,B,e2⟩:=z e1;exact⟨G,B.trans D,e2⟩
theorem cJ1 {α:Type} (l:List α) (d:α):((aT l.length).map λi=>l.getD i d)=l:=by
 apply iX
 ·simp
 ·intro i h1 h2;simp only[iY,List.getElem_range,ah];rw[af h2]
  rfl
theorem sort_tupsL {a:Addr} {vs:List ad} {ds:List (List Str)} {n:Nat} {P:gV->ai->Prop} (hu:A.units < cx) (ho:s.heap.get? a=some (cm "list" vs.toArray n)) (hp:bb (TS s.heap) vs ds) (hz:vs.length<=sizeLine)
  (h:∀ (idx:List Nat) (h':a9) (c:Nat),idx.Perm (aT vs.length)->(idx.map λi=>ds.getD i []).Pairwise (λa b=>HT.lexS b a=false)->(idx.map λi=>ds.getD i []).Perm ds->h'.get? a=some (cm "list" (idx.map λi=>vs.getD i bX).toArray c) ->
   (∀ b o,b≠a->s.heap.get? b=some o->h'.get? b=some o)->P (.done (.ret .none)) { s with heap:=h' }) :
  aD (aF prog w) A (cg.«list.sort» ⟨[.ref a],[]⟩) P E s:=by
 have hl:vs.length=ds.length:=b6 hp;have at_:∀ i,i < vs.length->TS s.heap (vs.getD i bX) (ds.getD i []):=λk hk=>by
  obtain⟨d,hd,t⟩:=L2.Paired.get' hp (af hk);rw[ah,ah,hd,af hk];exact t
 have B:∀ v∈vs,TS s.heap v (dec s.heap v):=λv hv=>by
  obtain⟨i,hi,e⟩:=bB hv
  have:=at_ i hi
  rw[ah,af hi] at this;have e2:TS s.heap v (ds.getD i []):=by rw[<- e];exact this
  rw[cJ0 e2];exact e2
 refine SF.sort_any (λu v=>HT.lexS (dec s.heap u) (dec s.heap v)) hz ho (λh2 kp U Q hq=>?_) λxs L Z=>?_
 ·have kt:∀ b o,s.heap.get? b=some o->o.cls=.type "tuple"->h2.get? b=some o:=λb o e c=>kp b o (by
   rintro rfl;rw[ho] at e;have e':=aR e;rw[<- e'] at c;have c':cO "list" = cO "tuple":=c;injection c' with Y
   exact absurd Y (by decide)) e
  have N:bb (TS h2) vs ds:=L2.Paired.imp (λv d t=>t.keep kt) hp;refine eQ5 (s:={ s with heap:=h2 }) N (by rintro rfl;simp at U) fun κ hκ=>hq κ ⟨λx y Q L hy q=>?_,λx y _ _ e=>HT.lexS_as e,λx y z _ _ _ e1 e2=>eQ8 e1 e2⟩
  have t1:=(B _ L).keep kt;have G:=(B _ hy).keep kt;rcases hκ with rfl | rfl | rfl
  ·exact cXw (s:={ s with heap:=h2 }) t1 G q
  ·exact cZl (s:={ s with heap:=h2 }) hu t1 G q
  ·exact eJa (s:={ s with heap:=h2 }) hu t1 G q
 ·have pl:xs.toList.Perm (gD vs).toList:=cJ.mp L;obtain⟨idx,J,e1⟩:=dZ8 (f:=λi=>(vs.getD i bX,vs.getD i bX)) (m:=aT vs.length) pl (by
   rw[ie]
   conv=>lhs;rw[<- cJ1 vs bX]
   rw[List.zip_map'])
  have D:∀ i∈idx,i < vs.length:=λi hi=>aP.mp (J.mem_iff.mp hi);have eo:xs.map (·.2)=(idx.map λi=>vs.getD i bX).toArray:=by
   apply iW.mp;rw[Array.toList_map,e1,bd]
   rfl
  rw[eo];rw[e1,bH] at Z;have s2:=bW (((s.heap.update a (bK λ_=>(#[]:Array ad))).push (cm "tuple" vs.toArray 0)).push (cm "list" #[] 0)) a (bK λ_=>(idx.map λi=>vs.getD i bX).toArray);obtain⟨e2,O⟩:∃ e1,(s.heap.update a (bK λ_=>(#[]:Array ad))).get? a=some (cm "list" #[] e1):=⟨_,fM ho λ_=>#[]⟩;have sb:=bW s.heap a (bK λ_=>(#[]:Array ad));refine h idx _ _ J ?_ ?_ (fM (ag _ (ag _ O)) λ_=>_) λb o hb e=>(s2.2 b hb).trans (ag _ (ag _ ((sb.2 b hb).trans e)))
  ·rw[bH];refine Z.imp_of_mem λ{i j} hi hj R=>?_;have a1:=cJ0 (at_ i (D i hi));have a2:=cJ0 (at_ j (D j hj));rw[<- a1,<- a2];exact R
  ·have:=J.map λi=>ds.getD i []
   rw[hl,cJ1] at this;exact this
theorem cJ2 {l:List (List Str)} (nd:l.Nodup) (h:l.Pairwise λa b=>HT.lexS b a=false):l.Pairwise λa b=>HT.lexS a b=true:=gb (λ⟨h1,h2⟩=>HT.lexS_tot h1 λz=>h2 z.symm) (List.pairwise_and_iff.mpr ⟨h,nd⟩)
theorem sort_tups {a:Addr} {vs:List ad} {ds:List (List Str)} {n:Nat} {P:gV->ai->Prop} (hu:A.units < cx) (ho:s.heap.get? a=some (cm "list" vs.toArray n)) (hp:bb (TS s.heap) vs ds) (nd:ds.Nodup) (hz:vs.length<=sizeLine)
  (h:∀ (idx:List Nat) (h':a9) (c:Nat),idx.Perm (aT vs.length)->(idx.map λi=>ds.getD i []).Pairwise (λa b=>HT.lexS a b=true)->(idx.map λi=>ds.getD i []).Perm ds->h'.get? a=some (cm "list" (idx.map λi=>vs.getD i bX).toArray c) ->
   (∀ b o,b≠a->s.heap.get? b=some o->h'.get? b=some o)->P (.done (.ret .none)) { s with heap:=h' }) :
  aD (aF prog w) A (cg.«list.sort» ⟨[.ref a],[]⟩) P E s:=sort_tupsL hu ho hp hz λidx h' c z q j g k=>h idx h' c z (cJ2 (j.nodup_iff.mpr nd) q) j g k
end
end KS
namespace ST
open PySem PySem.SetTable PySem.Spec PyProof.Rows
def restr {prog:aC} {w:aO} {κ:Type} (D:SetKd prog w κ) (W:κ->ad->Prop):SetKd prog w κ where
 is:=λh k v=>D.is h k v/\W k v
 I:=λh a es ep t=>D.I h a es ep t/\∀ e∈es.toList,∃ k,D.is h k e.2/\W k e.2
 inj:=λa b=>D.inj a.1 b.1
 obj:=λx=>D.obj x.1
 fits:=λx=>D.fits x.1
 few:=λx p nd hp=>D.few x.1 (L2.Paired.mapP p λ_ _ q=>q.1) nd hp
 fresh:=λh=>⟨D.fresh h,λe he=>by simp at he⟩
 keepIs:=λx kp=>⟨D.keepIs x.1 kp,x.2⟩
 keepI:=λx e kp=>⟨D.keepI x.1 e kp,λe he=>let ⟨k,h1,h2⟩:=x.2 e he;⟨k,D.keepIs h1 kp,h2⟩⟩
 add:=λ{A E s a es ep t k x Q} hu hI hx hn h=>by
  refine D.add hu hI.1 hx.1 hn λh' tk es' ep' t' added q1 q2 q3 q4 q5=>?_;have kp:=aXb (D.obj hI.1) q2;have up:∀ e∈es.toList,∃ k,D.is h' k e.2/\W k e.2:=λe he=>let ⟨k,h1,h2⟩:=hI.2 e he;⟨k,D.keepIs h1 kp,h2⟩
  rcases q5 with⟨r1,r2,e,he,r3⟩ | ⟨r1,⟨hh,r2⟩,r3⟩
  ·obtain⟨k',z1,z2⟩:=hI.2 e he
   have:=D.inj r3 z1
   subst this;exact h h' tk es' ep' t' added ⟨q1,by rw[r2];exact up⟩ q2 q3 q4 (.inl ⟨r1,r2,e,he,r3,z2⟩)
  ·refine h h' tk es' ep' t' added ⟨q1,λe he=>?_⟩ q2 q3 q4 (.inr ⟨r1,⟨hh,r2⟩,λ⟨e,he,z⟩=>r3 ⟨e,he,z.1⟩⟩);rcases aB.mp (r2.mem_iff.mp he) with z | z
   ·subst z;exact⟨k,D.keepIs hx.1 kp,hx.2⟩
   ·exact up e z
end ST
namespace L2
open PySem PySem.Spec PyProof.Rows
def stO (p:Addr) (es:Array (Int × ad)) (ep:Nat) (t:aS):HO:=.ext λh=>h.get? p=some (ST.setOb es ep t)
abbrev PV (K:Fg) (H:Hp):ad->V × List Str->Prop:=λv p=>RelV p.1 v/\dT K dS H p.1 p.2
def dSt (w:aO) (K:Fg):Dn (List (List Str)):=λH v ms=>∃ p es ep t ps,v=.ref p/\H p=some (stO p es ep t)/\t.fits es.size=true/\t.led=ST.ledOf w/\(t.plain=true->es.size<=1)/\bb (PV K H) (es.toList.map (·.2)) ps/\ms=ps.map (·.2)
theorem Inv.drawn {X:Cx} {pins:List (Addr × Obj)} {σ:St} {H:Hp} {s:ai} (I:Inv X pins σ H s) (d:_):Inv X pins σ H { s with drawn:=d } :=
 ⟨I.ok,I.os,I.bare,I.base,I.loc,I.cell,I.free,I.freeC,I.pin,I.hok,I.len⟩
section
variable {X:Cx}
theorem eJk {K:Fg} {H:Hp} {h:a9} {P:aC} {w:aO}:∀ {es:List (Int × ad)} {ms:List (List Str)},bb (λ(e:Int × ad) k=>ST.TK P w h k e.2/\∃ x,RelV x e.2/\dT K dS H x k) es ms->∃ ps,bb (PV K H) (es.map (·.2)) ps/\ms=ps.map (·.2)
 | _,_,.nil=>⟨[],.nil,rfl⟩
 | _,_,.cons ⟨_,x,r,d⟩ q=>by
  obtain⟨ps,h1,h2⟩:=eJk q;exact⟨(x,_)::ps,.cons ⟨r,d⟩ h1,by rw[h2];rfl⟩
theorem dXn {P:aC} {w:aO} {pins:List (Addr × Obj)} {σ:St} {H:Hp} {s:ai} (I:Inv X pins σ H s):∀ {xs:List V} {us:List ad} {ds:List (List Str)},bb (dT X.K dS H) xs ds->Vals xs us->bb (λv k=>ST.TK P w s.heap k v/\∃ x,RelV x v/\dT X.K dS H x k) us ds
 | _,_,_,.nil,.nil=>.nil
 | _,_,_,.cons p q,.cons r t=>by
  refine .cons ⟨?_,_,r,p⟩ (dXn I q t);obtain⟨b,ys,rfl,B,pp⟩:=p;cases r;obtain⟨its,z,j,_⟩:=I.tuple B;exact fZz (K:=X.K) pp z j
end
section
variable {X:Cx}
theorem eJl {K:Fg} {pins:List (Addr × Obj)} {σ:St} {H:Hp} {s:ai} (I:Inv X pins σ H s) (hK:X.K=K) {h':a9} (k:∀ b o,s.heap.get? b=some o->h'.get? b=some o):∀ {vs:List ad} {ps:List (V × List Str)},bb (PV K H) vs ps->bb (KS.TS h') vs (ps.map (·.2))
 | _,_,.nil=>.nil
 | _,_,.cons ⟨r,d⟩ q=>by
  refine .cons ?_ (eJl I hK k q);obtain⟨b,xs,e,j,pp⟩:=d;rw[e] at r;cases r;rw[<- hK] at j;obtain⟨its,B,⟨o,D,z⟩,_⟩:=I.tuple j;exact⟨b,its.toArray,rfl,⟨o,k b o D,z⟩,aJx pp B⟩
theorem cQk:∀ (ps:List (V × List Str)) (i:Nat),(ps.map (·.2)).getD i []=(ps.getD i (V.non,[])).2
 | [],i=>by simp
 | p::ps,0=>by simp
 | p::ps,i + 1=>by simpa using cQk ps i
theorem bZg {K:Fg} {H:Hp}:∀ {vs:List ad} {zs:List (V × List Str)},bb (PV K H) vs zs->Vals (zs.map (·.1)) vs/\bb (dT K dS H) (zs.map (·.1)) (zs.map (·.2))
 | _,_,.nil=>⟨.nil,.nil⟩
 | _,_,.cons ⟨r,d⟩ q=>⟨.cons r (bZg q).1,.cons d (bZg q).2⟩
theorem cJ3 {H:Hp}:∀ {xs:List V} {us:List ad} {ds:List Str},bb (dS H) xs ds->Vals xs us->jc us ds
 | _,_,_,.nil,.nil=>.nil
 | _,_,_,.cons p q,.cons r t=>by
  cases p;obtain⟨k,rfl⟩:=r;exact .cons _ k (cJ3 q t)
theorem bZh {H:Hp}:∀ {us:List ad} {ds:List Str},jc us ds->Vals (ds.map V.str) us/\bb (dS H) (ds.map V.str) ds
 | _,_,.nil=>⟨.nil,.nil⟩
 | _,_,.cons y t r=>⟨.cons ⟨t,rfl⟩ (bZh (H:=H) r).1,.cons rfl (bZh r).2⟩
theorem dXo:∀ {l:List Str},sortedS l=true->l.Nodup->l.Pairwise λa b=>HT.ltS a b=true
 | [],_,_=>.nil
 | [x],_,_=>bJ _ _
 | x::y::l,h,nd=>by
  have h':(!ltCps y.cps.toList x.cps.toList && risingS y l)=true:=h;rw[bm] at h';have B:=dXo (l:=y::l) h'.2 (bt.mp nd).2;have j:HT.ltS x y=true:=by
   have e:HT.ltS y x=false:=by
    have:=h'.1
    rw[bT] at this;rw[ltCps_eq] at this;exact this
   exact HT.ltS_tot e λz=>(bt.mp nd).1 (z ▸ ao)
  refine aW.mpr ⟨λz q=>?_,B⟩;rcases aB.mp q with rfl | q
  ·exact j
  ·exact HT.ltS_tr j ((aW.mp B).1 z q)
end
end L2
set_option maxHeartbeats 4000000
namespace L2
open PySem PySem.Spec PyProof.Rows
def cutS (z:Str) (lo hi:Option Int):Str:=if ((bP lo hi 1 z.length).length == z.length)=true then z else ⟨((bP lo hi 1 z.length).filterMap (z.cps[·]?)).toArray⟩
def rSlS:V->Option Int->Option Int->Hp->VK->Prop:=λx lo hi H Q=>∃ z,x=.str z/\z.length<=1000000/\Q (.str (cutS z lo hi)) H
theorem sl_str {X:Cx}:SlR X rSlS:=by
 intro pins s σ H x v Y U lo hi sl Q I L O pl pu h;obtain⟨z,rfl,Z,q⟩:=h;obtain⟨t,rfl⟩:=L;refine⟨"str",_,PySem.F.slot_str_getitem.lookup,typeIs_str _ _ _,?_⟩;have go:∀ (l u:Option (Int × Tok)),l.map (·.1)=lo->u.map (·.1)=hi->s.heap.IsSlice sl l u none->aD (aF X.prog X.w) X.A (gA (.str z t) (.ref sl)) (EP X pins σ Q) X.xe s:=λl u hl N R=>by
  refine wpAny_getItem_str_slice R rfl ?_;unfold sliceMade slicePicked;simp only[Option.map_none,iI,beq_self_eq_true,Bool.true_and,hl,N];unfold cutS at q
  by_cases c:((bP lo hi 1 z.length).length == z.length)=true
  ·rw[if_pos c] at q ⊢;exact⟨.str z,H,I,⟨t,rfl⟩,q⟩
  ·rw[if_neg c] at q ⊢;refine⟨?_,.str _,H,I.tok _,⟨_,rfl⟩,q⟩;have h1:=PyProof.Rows.indices_len_le lo hi z.length;have h2:((bP lo hi 1 z.length).filterMap (z.cps[·]?)).length<=(bP lo hi 1 z.length).length:=List.length_filterMap_le _ _;show((bP lo hi 1 z.length).filterMap (z.cps[·]?)).toArray.size<=_;rw[am,be];lia
 obtain⟨o,B,D,hd⟩:=O;cases pl with
 | none =>
  cases pu with
  | none=>exact go none none rfl rfl ⟨o,B,D,hd⟩
  | int j G=>exact go none (some (j,G)) rfl rfl ⟨o,B,D,hd⟩
 | int i J =>
  cases pu with
  | none=>exact go (some (i,J)) none rfl rfl ⟨o,B,D,hd⟩
  | int j G=>exact go (some (i,J)) (some (j,G)) rfl rfl ⟨o,B,D,hd⟩
end L2
set_option maxHeartbeats 1000000
namespace L2
open PySem PySem.Spec PyProof.Rows
inductive D where
 | non | bl (b:Bool) | int (i:Int) | str (x:Str) | ty (n:String) | ref (a:Addr) | tup (xs:List D) | lst (xs:List D)
abbrev Am:=Addr->Prop
structure Keep (M:Am) (H:Hp) (M':Am) (H':Hp):Prop where
 st:∀ a o,¬ M a->H a=some o->H' a=some o
 nm:∀ a,¬ M a->H a≠none->¬ M' a
def Xo:HO->Prop
 | .ext _=>True
 | .ins _ _ _=>True
 | _=>False
inductive DO where
 | lst (xs:List D) | dk (kvs:List (Key × D)) | dt (kvs:List (List Key × D))
 | tb (pos:Pos) (qual:Str)
 | ex (f:Am->Hp->Addr->Prop) (hk:∀ M M' H H' a,Keep M H M' H'->H' a=H a->f M H a->f M' H' a) (hl:∀ M H a,f M H a->∃ g,H a=some g/\Xo g)
abbrev Sto:=Addr->Option DO
abbrev Gm:=List (Option D)
def supd (S:Sto) (a:Addr) (o:DO):Sto:=λb=>if b=a then some o else S b
def sdel (S:Sto) (a:Addr):Sto:=λb=>if b=a then none else S b
theorem aQ7 {S:Sto} {a:Addr} {o:DO}:supd S a o a=some o:=by unfold supd;rw[if_pos rfl]
theorem aQ9 {S:Sto} {a b:Addr} {o:DO} (h:b≠a):supd S a o b=S b:=by unfold supd;rw[if_neg h]
theorem aXj {S:Sto} {a:Addr}:sdel S a a=none:=by unfold sdel;rw[if_pos rfl]
theorem aXc {S:Sto} {a b:Addr} (h:b≠a):sdel S a b=S b:=by unfold sdel;rw[if_neg h]
def TupAt (K:Fg) (M:Am) (H:Hp) (a:Addr) (xs:List V):Prop:=(¬ M a/\Rd H a (.tup xs))\/SqT K (λ_=>none) a xs
theorem TupAt.sq {K:Fg} {M:Am} {H:Hp} {a:Addr} {xs:List V} (h:TupAt K M H a xs):SqT K H a xs:=by
 rcases h with h | (h | ⟨o,h⟩) | h
 ·exact .inl h.2
 ·cases h
 ·cases h
 ·exact .inr h
def LstAt (K:Fg) (M:Am) (H:Hp) (a:Addr) (xs:List V):Prop:=(¬ M a/\Rd H a (.lst xs))\/SqL K (λ_=>none) a xs
theorem LstAt.sq {K:Fg} {M:Am} {H:Hp} {a:Addr} {xs:List V} (h:LstAt K M H a xs):SqL K H a xs:=by
 rcases h with h | (h | ⟨o,h⟩) | h
 ·exact .inl h.2
 ·cases h
 ·cases h
 ·exact .inr h
mutual
def RepV (K:Fg) (M:Am) (H:Hp):D->V->Prop
 | .non,v=>v=.non
 | .bl b,v=>v=.bl b
 | .int i,v=>v=.int i
 | .str x,v=>v=.str x
 | .ty n,v=>v=.ty n
 | .ref a,v=>v=.ref a
 | .tup ds,v=>∃ a xs,v=.ref a/\TupAt K M H a xs/\RepL K M H ds xs
 | .lst ds,v=>∃ a xs,v=.ref a/\LstAt K M H a xs/\RepL K M H ds xs
def RepL (K:Fg) (M:Am) (H:Hp):List D->List V->Prop
 | [],xs=>xs=[]
 | d::ds,xs=>∃ v vs,xs=v::vs/\RepV K M H d v/\RepL K M H ds vs
end
theorem Rd.live {H:Hp} {a:Addr} {u:HO} (r:Rd H a u):H a≠none:=by
 rcases r with r | ⟨o,r⟩ <;> rw[r] <;> exact λz=>by cases z
theorem Keep.rd {M M':Am} {H H':Hp} (k:Keep M H M' H') {a:Addr} {u:HO} (hm:¬ M a) (r:Rd H a u):Rd H' a u:=by
 rcases r with r | ⟨o,r⟩
 ·exact .inl (k.st a _ hm r)
 ·exact .inr ⟨o,k.st a _ hm r⟩
theorem TupAt.keep {K:Fg} {M M':Am} {H H':Hp} {p:Addr} {us:List V} (t:TupAt K M H p us) (x:Keep M H M' H'):TupAt K M' H' p us:=by
 rcases t with⟨hm,r⟩ | t
 ·exact .inl ⟨x.nm p hm r.live,x.rd hm r⟩
 ·exact .inr t
theorem LstAt.keep {K:Fg} {M M':Am} {H H':Hp} {p:Addr} {us:List V} (t:LstAt K M H p us) (x:Keep M H M' H'):LstAt K M' H' p us:=by
 rcases t with⟨hm,r⟩ | t
 ·exact .inl ⟨x.nm p hm r.live,x.rd hm r⟩
 ·exact .inr t
mutual
theorem RepV.keep {K:Fg} {M M':Am} {H H':Hp} (k:Keep M H M' H'):∀ {d:D} {v:V},RepV K M H d v->RepV K M' H' d v
 | .non,_,h=>h
 | .bl _,_,h=>h
 | .int _,_,h=>h
 | .str _,_,h=>h
 | .ty _,_,h=>h
 | .ref _,_,h=>h
 | .tup ds,v,h=>by
  unfold RepV at h ⊢;obtain⟨a,xs,e,t,l⟩:=h;exact⟨a,xs,e,t.keep k,RepL.keep k l⟩
 | .lst ds,v,h=>by
  unfold RepV at h ⊢;obtain⟨a,xs,e,t,l⟩:=h;exact⟨a,xs,e,t.keep k,RepL.keep k l⟩
theorem RepL.keep {K:Fg} {M M':Am} {H H':Hp} (k:Keep M H M' H'):∀ {ds:List D} {xs:List V},RepL K M H ds xs->RepL K M' H' ds xs
 | [],_,h=>h
 | d::ds,xs,h=>by
  unfold RepL at h ⊢;obtain⟨v,j,e,r,l⟩:=h;exact⟨v,j,e,RepV.keep k r,RepL.keep k l⟩
end
section
variable {K:Fg} {M:Am} {H:Hp}
theorem RepL.length:∀ {ds:List D} {xs:List V},RepL K M H ds xs->xs.length=ds.length
 | [],_,h=>by unfold RepL at h;rw[h];rfl
 | d::ds,xs,h=>by
  unfold RepL at h;obtain⟨v,j,rfl,_,l⟩:=h;simp[RepL.length l]
theorem RepL.nil:RepL K M H [] []:=by unfold RepL;rfl
theorem RepL.cons {d:D} {ds:List D} {v:V} {vs:List V} (r:RepV K M H d v) (l:RepL K M H ds vs):RepL K M H (d::ds) (v::vs):=by unfold RepL;exact⟨v,vs,rfl,r,l⟩
theorem RepL.app:∀ {ds es:List D} {xs ys:List V},RepL K M H ds xs->RepL K M H es ys->RepL K M H (ds++es) (xs++ys)
 | [],es,xs,ys,h,h'=>by unfold RepL at h;rw[h];exact h'
 | d::ds,es,xs,ys,h,h'=>by
  unfold RepL at h;obtain⟨v,j,rfl,r,l⟩:=h;exact RepL.cons r (RepL.app l h')
theorem RepL.get:∀ {ds:List D} {xs:List V} {i:Nat} {d:D},RepL K M H ds xs->ds[i]?=some d->∃ v,xs[i]?=some v/\RepV K M H d v
 | [],_,_,_,_,e=>by simp at e
 | d::ds,xs,0,e,h,he=>by
  unfold RepL at h;obtain⟨v,j,rfl,r,l⟩:=h;simp at he;subst he;exact⟨v,rfl,r⟩
 | d::ds,xs,i + 1,e,h,he=>by
  unfold RepL at h;obtain⟨v,j,rfl,r,l⟩:=h;obtain⟨w,h1,h2⟩:=RepL.get (i:=i) l (by simpa using he)
  exact⟨w,by simpa using h1,h2⟩
theorem RepL.get' {ds:List D} {xs:List V} {i:Nat} {v:V} (h:RepL K M H ds xs) (e:xs[i]?=some v):∃ d,ds[i]?=some d/\RepV K M H d v:=by
 have hl:=h.length;have hi:i < xs.length:=by
  rcases Nat.lt_or_ge i xs.length with z | z
  ·exact z
  ·rw[bu z] at e;cases e
 have j:ds[i]?=some ds[i]:=af (by omega)
 obtain⟨w,h1,h2⟩:=h.get j;rw[e] at h1;cases h1;exact⟨_,j,h2⟩
theorem RepL.take:∀ {ds:List D} {xs:List V} (n:Nat),RepL K M H ds xs->RepL K M H (ds.take n) (xs.take n)
 | _,_,0,_=>by simpa using RepL.nil
 | [],_,n + 1,h=>by unfold RepL at h;subst h;simpa using RepL.nil
 | d::ds,xs,n + 1,h=>by
  unfold RepL at h;obtain⟨v,j,rfl,r,l⟩:=h;simpa using RepL.cons r (RepL.take n l)
theorem RepL.drop:∀ {ds:List D} {xs:List V} (n:Nat),RepL K M H ds xs->RepL K M H (ds.drop n) (xs.drop n)
 | _,_,0,h=>by simpa using h
 | [],_,n + 1,h=>by unfold RepL at h;subst h;simpa using RepL.nil
 | d::ds,xs,n + 1,h=>by
  unfold RepL at h;obtain⟨v,j,rfl,r,l⟩:=h;simpa using RepL.drop n l
theorem RepL.set {d:D} {v:V} (r:RepV K M H d v):∀ {ds:List D} {xs:List V} (i:Nat),RepL K M H ds xs->RepL K M H (ds.set i d) (xs.set i v)
 | [],_,i,h=>by unfold RepL at h;subst h;simpa using RepL.nil
 | e::ds,xs,0,h=>by
  unfold RepL at h;obtain⟨w,j,rfl,_,l⟩:=h;simpa using RepL.cons r l
 | e::ds,xs,i + 1,h=>by
  unfold RepL at h;obtain⟨w,j,rfl,q,l⟩:=h;simpa using RepL.cons q (RepL.set r i l)
theorem RepL.erase:∀ {ds:List D} {xs:List V} (i:Nat),RepL K M H ds xs->RepL K M H (ds.eraseIdx i) (xs.eraseIdx i)
 | [],_,i,h=>by unfold RepL at h;subst h;simpa using RepL.nil
 | e::ds,xs,0,h=>by
  unfold RepL at h;obtain⟨w,j,rfl,_,l⟩:=h;simpa using l
 | e::ds,xs,i + 1,h=>by
  unfold RepL at h;obtain⟨w,j,rfl,q,l⟩:=h;simpa using RepL.cons q (RepL.erase i l)
theorem RepL.one {d:D} {xs:List V} (h:RepL K M H [d] xs):∃ v,xs=[v]/\RepV K M H d v:=by
 unfold RepL at h;obtain⟨v,j,rfl,r,l⟩:=h;unfold RepL at l;subst l;exact⟨v,rfl,r⟩
theorem RepL.two {d e:D} {xs:List V} (h:RepL K M H [d,e] xs):∃ v w,xs=[v,w]/\RepV K M H d v/\RepV K M H e w:=by
 unfold RepL at h;obtain⟨v,q,rfl,r,l⟩:=h;obtain⟨w,rfl,j⟩:=l.one;exact⟨v,w,rfl,r,j⟩
end
def mt (S:Sto) (F:Am):Am:=λa=>S a≠none\/F a
abbrev cdO (c:Addr) (oc:Obj):HO:=.ext λh=>h.get? c=some oc
def TbOk (M:Am) (H:Hp) (pos:Pos) (qual:Str) (ps:Array ad):Prop:=TriplesOk ps.toList/\(codeAmong pos ps.toList=none \/
 ∃ c oc,codeAmong pos ps.toList=some (.ref c)/\¬ M c/\H c=some (cdO c oc)/\∃ vs t,oc.data=.fields vs/\vs[1]?=some (.str qual t))
theorem TbOk.keep {M M':Am} {H H':Hp} (k:Keep M H M' H') {pos:Pos} {qual:Str} {ps:Array ad} (h:TbOk M H pos qual ps):TbOk M' H' pos qual ps:=by
 obtain⟨h1,h2⟩:=h;refine⟨h1,h2.imp id λ⟨c,oc,e1,m,e2,r⟩=>⟨c,oc,e1,k.nm c m (by rw[e2];exact λz=>by cases z),k.st c _ m e2,r⟩⟩
def RepO (K:Fg) (M:Am) (H:Hp) (a:Addr):DO->Prop
 | .lst ds=>∃ xs,H a=some (.lst xs)/\RepL K M H ds xs
 | .dk kvs=>∃ ks,H a=some (.dK ks)/\bb (λ(p:Key × V) (q:Key × D)=>p.1=q.1/\RepV K M H q.2 p.2) ks kvs
 | .dt kvs=>∃ ks,H a=some (.dT ks)/\bb (λ(p:List Key × V) (q:List Key × D)=>p.1=q.1/\RepV K M H q.2 p.2) ks kvs
 | .tb pos qual=>∃ ps,H a=some (.tbl ps)/\TbOk M H pos qual ps
 | .ex f _ _=>f M H a
theorem RepO.live {K:Fg} {M:Am} {H:Hp} {a:Addr} {o:DO} (h:RepO K M H a o):H a≠none:=by
 cases o with
 | ex f j hl=>obtain⟨g,e,_⟩:=hl _ _ _ h;rw[e];exact λz=>by cases z
 | _=>obtain⟨xs,e,_⟩:=h;rw[e];exact λz=>by cases z
theorem RepO.keep {K:Fg} {M M':Am} {H H':Hp} (k:Keep M H M' H') {a:Addr} {o:DO} (e:H' a=H a) (h:RepO K M H a o):RepO K M' H' a o:=by
 cases o with
 | lst ds=>obtain⟨xs,e1,l⟩:=h;exact⟨xs,e.trans e1,l.keep k⟩
 | dk j=>obtain⟨xs,e1,l⟩:=h;exact⟨xs,e.trans e1,Paired.imp (λ_ _ z=>⟨z.1,z.2.keep k⟩) l⟩
 | dt j=>obtain⟨xs,e1,l⟩:=h;exact⟨xs,e.trans e1,Paired.imp (λ_ _ z=>⟨z.1,z.2.keep k⟩) l⟩
 | tb pos qual=>obtain⟨xs,e1,l⟩:=h;exact⟨xs,e.trans e1,l.keep k⟩
 | ex f q hl=>exact q _ _ _ _ _ k e h
def Clt:HO->Prop
 | .lst _=>True
 | .ext _=>True
 | _=>False
structure Rp (K:Fg) (F:Am) (S:Sto) (H:Hp):Prop where
 obj:∀ a o,S a=some o->RepO K (mt S F) H a o
 frm:∀ a,F a->(∃ u,H a=some u/\Clt u)/\S a=none
structure Ext (S:Sto) (H:Hp) (S':Sto) (H':Hp):Prop where
 keep:∀ a o,S a=none->H a=some o->H' a=some o
 live:∀ a,H a≠none->H' a≠none
 new:∀ a,S' a≠none->S a≠none\/H a=none
theorem Ext.refl (S:Sto) (H:Hp):Ext S H S H:=⟨λ_ _ _ h=>h,λ_ h=>h,λ_ h=>.inl h⟩
theorem Ext.sn {S S':Sto} {H H':Hp} (x:Ext S H S' H') {a:Addr} (h:S a=none) (h':H a≠none):S' a=none:=by
 cases e:S' a with
 | none=>rfl
 | some o =>
  rcases x.new a (by rw[e];exact λz=>by cases z) with z | z
  ·exact absurd h z
  ·exact absurd z h'
theorem Ext.trans {S S1 S2:Sto} {H H1 H2:Hp} (x:Ext S H S1 H1) (y:Ext S1 H1 S2 H2):Ext S H S2 H2 :=
 ⟨λa o h h'=>y.keep a o (x.sn h (by rw[h'];exact λz=>by cases z)) (x.keep a o h h'),λa h=>y.live a (x.live a h),λa h=>by
  rcases y.new a h with z | z
  ·exact x.new a z
  ·refine .inr (aJ λn=>x.live a n z)⟩
theorem Ext.same {S:Sto} {H H':Hp} (s:Same H H'):Ext S H S H' where
 keep:=λa o _ h=>s a o h
 live:=λa h=>by
  cases e:H a with
  | none=>exact absurd e h
  | some o =>
   rw[s a o e];exact λz=>by cases z
 new:=λ_ h=>.inl h
theorem Ext.kp {F:Am} {S S':Sto} {H H':Hp} (x:Ext S H S' H'):Keep (mt S F) H (mt S' F) H':=⟨λa o h e=>x.keep a o (aJ λn=>h (.inl n)) e,λa h e=>λz=>by
 rcases z with z | z
 ·rcases x.new a z with y | y
  ·exact h (.inl y)
  ·exact e y
 ·exact h (.inr z)⟩
section
variable {K:Fg} {F:Am} {S S':Sto} {H H':Hp}
theorem RepV.ext {d:D} {v:V} (h:RepV K (mt S F) H d v) (x:Ext S H S' H'):RepV K (mt S' F) H' d v:=h.keep x.kp
theorem RepL.ext {ds:List D} {vs:List V} (h:RepL K (mt S F) H ds vs) (x:Ext S H S' H'):RepL K (mt S' F) H' ds vs:=h.keep x.kp
theorem Rp.same (r:Rp K F S H) (s:Same H H'):Rp K F S H' where
 obj:=λa o h=>by
  have q:=r.obj a o h;have e:H' a=H a:=by
   cases z:H a with
   | none=>exact absurd z q.live
   | some u=>exact s a u z
  exact q.keep (Ext.same s).kp e
 frm:=λa h=>by
  obtain⟨⟨zs,e,ct⟩,h2⟩:=r.frm a h;exact⟨⟨zs,s a _ e,ct⟩,h2⟩
theorem Ext.write {a:Addr} {o:DO} {u:HO} (h:S a≠none):Ext S H (supd S a o) (upd H a u) where
 keep:=λb q h1 h2=>by
  have ne:b≠a:=by rintro rfl;exact h h1
  rw[upd_ne ne];exact h2
 live:=λb j=>by
  by_cases e:b=a
  ·subst e;rw[aQg];exact λz=>by cases z
  ·rw[upd_ne e];exact j
 new:=λb j=>by
  by_cases e:b=a
  ·subst e;exact .inl h
  ·rw[aQ9 e] at j;exact .inl j
theorem Rp.write {a:Addr} {o:DO} {u:HO} (r:Rp K F S H) (h:S a≠none) (q:RepO K (mt (supd S a o) F) (upd H a u) a o):Rp K F (supd S a o) (upd H a u) where
 obj:=λb j hb=>by
  by_cases e:b=a
  ·subst e;rw[aQ7] at hb;cases hb;exact q
  ·rw[aQ9 e] at hb;exact(r.obj b j hb).keep (Ext.write h).kp (upd_ne e)
 frm:=λb hb=>by
  have e:b≠a:=by rintro rfl;exact h (r.frm b hb).2
  rw[upd_ne e,aQ9 e];exact r.frm b hb
theorem Rp.sn (r:Rp K F S H) {a:Addr} (h:H a=none):S a=none:=by
 cases e:S a with
 | none=>rfl
 | some o=>exact absurd h (r.obj a o e).live
theorem Ext.mk' {a:Addr} {o:DO} {u:HO} (h:H a=none):Ext S H (supd S a o) (upd H a u) where
 keep:=λb q h1 h2=>by
  have ne:b≠a:=by rintro rfl;rw[h] at h2;cases h2
  rw[upd_ne ne];exact h2
 live:=λb j=>by
  have ne:b≠a:=by rintro rfl;exact j h
  rw[upd_ne ne];exact j
 new:=λb j=>by
  by_cases e:b=a
  ·subst e;exact .inr h
  ·rw[aQ9 e] at j;exact .inl j
theorem Rp.mk' {a:Addr} {o:DO} {u:HO} (r:Rp K F S H) (h:H a=none) (q:RepO K (mt (supd S a o) F) (upd H a u) a o):Rp K F (supd S a o) (upd H a u) where
 obj:=λb j hb=>by
  by_cases e:b=a
  ·subst e;rw[aQ7] at hb;cases hb;exact q
  ·rw[aQ9 e] at hb;exact(r.obj b j hb).keep (Ext.mk' h).kp (upd_ne e)
 frm:=λb hb=>by
  have e:b≠a:=by
   rintro rfl;obtain⟨⟨zs,e,_⟩,_⟩:=r.frm b hb;rw[h] at e;cases e
  rw[upd_ne e,aQ9 e];exact r.frm b hb
theorem Ext.less {S':Sto} (h:∀ a o,S' a=some o->S a=some o):Ext S H S' H:=⟨λ_ _ _ e=>e,λ_ e=>e,λa e=>.inl λz=>by
 cases q:S' a with
 | none=>exact e q
 | some o=>rw[h a o q] at z;cases z⟩
theorem Rp.less {S':Sto} (r:Rp K F S H) (h:∀ a o,S' a=some o->S a=some o):Rp K F S' H where
 obj:=λa o e=>(r.obj a o (h a o e)).keep (Ext.less h).kp rfl
 frm:=λa e=>⟨(r.frm a e).1,by
  cases q:S' a with
  | none=>rfl
  | some o=>have:=h a o q;rw[(r.frm a e).2] at this;cases this⟩
theorem bJh {a:Addr}:∀ b o,sdel S a b=some o->S b=some o:=λb o e=>by
 by_cases z:b=a
 ·subst z;rw[aXj] at e;cases e
 ·rwa [aXc z] at e
end
def look (g:Gm) (i:Nat) (k:D->Prop):Prop:=match i with
 | 0=>match g with
  | some d::_=>k d
  | _=>False
 | n + 1=>match g with
  | _::g=>look g n k
  | []=>False
def RepG (K:Fg) (M:Am) (H:Hp):Gm->St->Prop
 | [],σ=>σ=[]
 | none::g,σ=>∃ v τ,σ=v::τ/\RepG K M H g τ
 | some d::g,σ=>∃ v τ,σ=some v::τ/\RepV K M H d v/\RepG K M H g τ
theorem RepG.keep {K:Fg} {M M':Am} {H H':Hp} (k:Keep M H M' H'):∀ {g:Gm} {σ:St},RepG K M H g σ->RepG K M' H' g σ
 | [],_,h=>h
 | none::g,_,⟨v,τ,e,r⟩=>⟨v,τ,e,RepG.keep k r⟩
 | some d::g,_,⟨v,τ,e,q,r⟩=>⟨v,τ,e,q.keep k,RepG.keep k r⟩
theorem RepG.ext {K:Fg} {F:Am} {S S':Sto} {H H':Hp} {g:Gm} {σ:St} (h:RepG K (mt S F) H g σ) (x:Ext S H S' H'):RepG K (mt S' F) H' g σ:=h.keep x.kp
theorem RepG.look {K:Fg} {M:Am} {H:Hp} {k:D->Prop}:∀ {g:Gm} {σ:St} {i:Nat},RepG K M H g σ->look g i k->∃ v d,σ[i]?=some (some v)/\RepV K M H d v/\k d
 | [],_,0,_,h=>dM h
 | [],_,_ + 1,_,h=>dM h
 | none::_,_,0,_,h=>dM h
 | some d::g,_,0,⟨v,τ,e,q,r⟩,h=>⟨v,d,by rw[e];rfl,q,h⟩
 | some d::g,_,i + 1,⟨v,τ,e,q,r⟩,h=>by
  obtain⟨u,j,e1,h1⟩:=RepG.look (i:=i) r h;exact⟨u,j,by rw[e];simpa using e1,h1⟩
 | none::g,_,i + 1,⟨v,τ,e,r⟩,h=>by
  obtain⟨u,j,e1,h1⟩:=RepG.look (i:=i) r h;exact⟨u,j,by rw[e];simpa using e1,h1⟩
theorem RepG.set {K:Fg} {M:Am} {H:Hp} {d:D} {v:V} (q:RepV K M H d v):∀ {g:Gm} {σ:St} (i:Nat),RepG K M H g σ->RepG K M H (g.set i (some d)) (σ.set i (some v))
 | [],_,_,h=>by cases h;rfl
 | none::g,_,0,⟨w,τ,e,r⟩=>by subst e;exact⟨v,τ,rfl,q,r⟩
 | some _::g,_,0,⟨w,τ,e,_,r⟩=>by subst e;exact⟨v,τ,rfl,q,r⟩
 | none::g,_,i + 1,⟨w,τ,e,r⟩=>by subst e;exact⟨w,_,rfl,RepG.set q i r⟩
 | some _::g,_,i + 1,⟨w,τ,e,z,r⟩=>by subst e;exact⟨w,_,rfl,z,RepG.set q i r⟩
abbrev DK:=D->Sto->Prop
abbrev ED:=Gm->Sto->DK->Prop
abbrev TD:=Gm->Sto->(Bool->Sto->Prop)->Prop
abbrev AD:=Gm->Sto->(List D->Sto->Prop)->Prop
structure EndsD where
 nx:Gm->Sto->Prop
 rt:DK
 bk:Gm->Sto->Prop:=λ_ _=>False
 ct:Gm->Sto->Prop:=λ_ _=>False
abbrev SD:=EndsD->Gm->Sto->Prop
def upE (K:Fg) (t:ED):TE:=fun σ H Q=>∃ F S Γ QD,Rp K F S H/\RepG K (mt S F) H Γ σ/\t Γ S QD/\∀ v d H' S',Ext S H S' H'->Rp K F S' H'->RepV K (mt S' F) H' d v->QD d S'->Q v H'
theorem upE.el {K:Fg} {t:ED} {σ:St} {H:Hp} {Q:VK} {p:Prop} (h:upE K t σ H Q) (k:∀ F S Γ QD,Rp K F S H->RepG K (mt S F) H Γ σ->t Γ S QD->(∀ v d H' S',Ext S H S' H'->Rp K F S' H'->RepV K (mt S' F) H' d v->QD d S'->Q v H')->p):p:=by
 obtain⟨F,S,Γ,QD,h0,h1,h2,j⟩:=h;exact k F S Γ QD h0 h1 h2 j
def upT (K:Fg) (t:TD):TT:=fun σ H Q=>∃ F S Γ QD,Rp K F S H/\RepG K (mt S F) H Γ σ/\t Γ S QD/\∀ b H' S',Ext S H S' H'->Rp K F S' H'->QD b S'->Q b H'
theorem upT.el {K:Fg} {t:TD} {σ:St} {H:Hp} {Q:Bool->Hp->Prop} {p:Prop} (h:upT K t σ H Q) (k:∀ F S Γ QD,Rp K F S H->RepG K (mt S F) H Γ σ->t Γ S QD->(∀ b H' S',Ext S H S' H'->Rp K F S' H'->QD b S'->Q b H')->p):p:=by
 obtain⟨F,S,Γ,QD,h0,h1,h2,j⟩:=h;exact k F S Γ QD h0 h1 h2 j
def upA (K:Fg) (t:AD):TA:=fun σ H Q=>∃ F S Γ QD,Rp K F S H/\RepG K (mt S F) H Γ σ/\t Γ S QD/\∀ vs ds H' S',Ext S H S' H'->Rp K F S' H'->RepL K (mt S' F) H' ds vs->QD ds S'->Q vs H'
theorem upA.el {K:Fg} {t:AD} {σ:St} {H:Hp} {Q:List V->Hp->Prop} {p:Prop} (h:upA K t σ H Q) (k:∀ F S Γ QD,Rp K F S H->RepG K (mt S F) H Γ σ->t Γ S QD->(∀ vs ds H' S',Ext S H S' H'->Rp K F S' H'->RepL K (mt S' F) H' ds vs->QD ds S'->Q vs H')->p):p:=by
 obtain⟨F,S,Γ,QD,h0,h1,h2,j⟩:=h;exact k F S Γ QD h0 h1 h2 j
structure CnS (K:Fg) (F:Am) (S:Sto) (H:Hp) (E:EndsD) (D':Ends):Prop where
 nx:∀ Γ' S' σ' H',Ext S H S' H'->Rp K F S' H'->RepG K (mt S' F) H' Γ' σ'->E.nx Γ' S'->D'.nx σ' H'
 rt:∀ v d H' S',Ext S H S' H'->Rp K F S' H'->RepV K (mt S' F) H' d v->E.rt d S'->D'.rt v H'
 bk:∀ Γ' S' σ' H',Ext S H S' H'->Rp K F S' H'->RepG K (mt S' F) H' Γ' σ'->E.bk Γ' S'->D'.bk σ' H'
 ct:∀ Γ' S' σ' H',Ext S H S' H'->Rp K F S' H'->RepG K (mt S' F) H' Γ' σ'->E.ct Γ' S'->D'.ct σ' H'
theorem CnS.ext {K:Fg} {F:Am} {S S1:Sto} {H H1:Hp} {E:EndsD} {D':Ends} (c:CnS K F S H E D') (x:Ext S H S1 H1):CnS K F S1 H1 E D' :=
 ⟨fun Γ' S' σ' H' y=>c.nx Γ' S' σ' H' (x.trans y),λv d H' S' y=>c.rt v d H' S' (x.trans y),fun Γ' S' σ' H' y=>c.bk Γ' S' σ' H' (x.trans y),fun Γ' S' σ' H' y=>c.ct Γ' S' σ' H' (x.trans y)⟩
def upS (K:Fg) (t:SD):TS:=λD' σ H=>∃ F S Γ E,Rp K F S H/\RepG K (mt S F) H Γ σ/\t E Γ S/\CnS K F S H E D'
theorem upS.el {K:Fg} {t:SD} {D':Ends} {σ:St} {H:Hp} {p:Prop} (h:upS K t D' σ H) (k:∀ F S Γ E,Rp K F S H->RepG K (mt S F) H Γ σ->t E Γ S->CnS K F S H E D'->p):p:=by
 obtain⟨F,S,Γ,E,h0,h1,h2,j⟩:=h;exact k F S Γ E h0 h1 h2 j
structure PD (K:Fg) (X:Cx) (e:Expr) (t:ED):Prop where
 o:PE X e (upE K t)
structure PTD (K:Fg) (X:Cx) (e:Expr) (t:TD):Prop where
 o:PT X e (upT K t)
structure PAD (K:Fg) (X:Cx) (es:List Expr) (t:AD):Prop where
 o:PA X es (upA K t)
structure PSD (K:Fg) (X:Cx) (st:Stmt) (t:SD):Prop where
 o:PS X st (upS K t)
structure PSsD (K:Fg) (X:Cx) (st:List Stmt) (t:SD):Prop where
 o:PSs X st (upS K t)
section
variable {X:Cx} {K:Fg}
theorem PD.of {e:Expr} {te:TE} {t:ED} (h:PE X e te) (i:∀ σ H Q,upE K t σ H Q->te σ H Q):PD K X e t:=⟨λpins s σ H Q I q=>h pins s σ H Q I (i σ H Q q)⟩
theorem PTD.of {e:Expr} {te:TT} {t:TD} (h:PT X e te) (i:∀ σ H Q,upT K t σ H Q->te σ H Q):PTD K X e t:=⟨λpins s σ H Q I q=>h pins s σ H Q I (i σ H Q q)⟩
theorem PAD.of {e:List Expr} {te:TA} {t:AD} (h:PA X e te) (i:∀ σ H Q,upA K t σ H Q->te σ H Q):PAD K X e t:=⟨λpos pins s σ H Q I q=>h pos pins s σ H Q I (i σ H Q q)⟩
theorem PSD.of {e:Stmt} {te:TS} {t:SD} (h:PS X e te) (i:∀ D' σ H,upS K t D' σ H->te D' σ H):PSD K X e t:=⟨λpins s σ H D' I q=>h pins s σ H D' I (i D' σ H q)⟩
theorem PSsD.of {e:List Stmt} {te:TS} {t:SD} (h:PSs X e te) (i:∀ D' σ H,upS K t D' σ H->te D' σ H):PSsD K X e t:=⟨λpins s σ H D' I q=>h pins s σ H D' I (i D' σ H q)⟩
def dVar (i:Nat):ED:=fun Γ S Q=>look Γ i λd=>Q d S
def dC (d:D):ED:=λ_ S Q=>Q d S
theorem dv (i:Nat) {x:Str} {pos:Pos} (hN:X.N[i]?=some x:=by rfl) (hv:Vis X.env.scope x:=by first | exact bp rfl | exact gK (bp rfl) | exact gK (gK rfl)) (hd:(x == ("__debug__" : Str))=false:=by decide)
  (hcd:(x == ("__classdict__" : Str))=false:=by decide):PD K X (.Name x pos) (dVar i):=.of (eX3 hN hv hd hcd) fun σ H Q j=>j.el λF S Γ QD r g h c=>by
 obtain⟨v,d,e,q,z⟩:=g.look h;exact⟨v,e,c v d H S (Ext.refl _ _) r q z⟩
theorem up_c {d:D} {v:V} (h:∀ M H,RepV K M H d v):∀ σ H Q,upE K (dC d) σ H Q->tC v σ H Q:=fun σ H Q j=>j.el λF S Γ QD r g q c=>c v d H S (Ext.refl _ _) r (h _ _) q
theorem aQ5 {i j pos}:PD K X (.Constant (.int i) j pos) (dC (.int i)):=.of eX4 (up_c λ_ _=>by unfold RepV;rfl)
theorem e_bl {b j pos}:PD K X (.Constant (.bool b) j pos) (dC (.bl b)):=.of fZj (up_c λ_ _=>by unfold RepV;rfl)
theorem aZm {x j pos}:PD K X (.Constant (.str x) j pos) (dC (.str x)):=.of eX5 (up_c λ_ _=>by unfold RepV;rfl)
def Cn (K:Fg) (F:Am) (S:Sto) (H:Hp) (QD:DK) (Q:VK):Prop:=∀ v d H' S',Ext S H S' H'->Rp K F S' H'->RepV K (mt S' F) H' d v->QD d S'->Q v H'
abbrev R2D:=D->D->Sto->DK->Prop
def OpD (K:Fg) (r:R2) (rd:R2D):Prop:=∀ F S H d e x y Q QD,Rp K F S H->RepV K (mt S F) H d x->RepV K (mt S F) H e y->rd d e S QD->Cn K F S H QD Q->r x y H Q
def dOp (rd:R2D) (ta tb:ED):ED:=fun Γ S Q=>ta Γ S λx S1=>tb Γ S1 λy S2=>rd x y S2 Q
theorem dZ9 {r:R2} {rd:R2D} {ta tb:ED} (h:OpD K r rd):∀ σ H Q,upE K (dOp rd ta tb) σ H Q->tOp r (upE K ta) (upE K tb) σ H Q:=fun σ H Q D=>D.el λF S Γ QD r g q c =>
 ⟨F,S,Γ,_,r,g,q,λx d H1 Y B L v1 O=>⟨F,Y,Γ,_,L,g.ext B,O,λy e H2 U j J v2 N=>h F U H2 d e x y Q QD J (v1.ext j) v2 N λv z Z R G=>c v z Z R (B.trans (j.trans G))⟩⟩
theorem e_op {op:Operator} {r:R2} {rd:R2D} {a b:Expr} {ta tb:ED} {pos:Pos} (ho:OpR X (eF op) r) (h:OpD K r rd) (ha:PD K X a ta) (hb:PD K X b tb):PD K X (.BinOp a op b pos) (dOp rd ta tb):=.of (fZp ho ha.o hb.o) (dZ9 h)
theorem eJm {op:CmpOp} {r:R2} {rd:R2D} {a b:Expr} {ta tb:ED} {pos:Pos} (ho:OpR X (dl op) r) (h:OpD K r rd) (ha:PD K X a ta) (hb:PD K X b tb) (hm:dU op b=false):PD K X (.Compare a [op] [b] pos) (dOp rd ta tb):=.of (dJa ho ha.o hb.o hm) (dZ9 h)
def bQg (t:ED):TD:=fun Γ S Q=>t Γ S λd S1=>∃ b,d=.bl b/\Q b S1
theorem eJn {r:R2} {rd:R2D} {ta tb:ED} (h:OpD K r rd):∀ σ H Q,upT K (bQg (dOp rd ta tb)) σ H Q->eXi (tOp r (upE K ta) (upE K tb)) σ H Q:=fun σ H Q q=>dZ9 (rd:=rd) h σ H _ (by
 obtain⟨F,S,Γ,QD,r,g,q,c⟩:=q;refine⟨F,S,Γ,_,r,g,q,λv d H1 D j z v1 ⟨b,e,B⟩=>?_⟩;subst e;unfold RepV at v1;exact⟨b,v1,c b H1 D j z B⟩)
theorem bQ0 {op:CmpOp} {r:R2} {rd:R2D} {a b:Expr} {ta tb:ED} {pos:Pos} (ho:OpR X (dl op) r) (h:OpD K r rd) (ha:PD K X a ta) (hb:PD K X b tb) (hm:dU op b=false):PTD K X (.Compare a [op] [b] pos) (bQg (dOp rd ta tb)):=.of (dJb ho ha.o hb.o hm) (eJn h)
end
end L2
set_option maxHeartbeats 4000000
namespace L2
open PySem PySem.Spec PyProof.Rows
section
variable {K:Fg} {F:Am} {S:Sto} {H:Hp} {QD:DK} {Q:VK}
theorem Cn.here (c:Cn K F S H QD Q) (r:Rp K F S H) {d:D} {v:V} (h:RepV K (mt S F) H d v) (q:QD d S):Q v H:=c v d H S (Ext.refl _ _) r h q
theorem Cn.int (c:Cn K F S H QD Q) (r:Rp K F S H) {i:Int} (q:QD (.int i) S):Q (.int i) H:=c.here r (by unfold RepV;rfl) q
theorem Cn.str (c:Cn K F S H QD Q) (r:Rp K F S H) {i:Str} (q:QD (.str i) S):Q (.str i) H:=c.here r (by unfold RepV;rfl) q
theorem Cn.bl (c:Cn K F S H QD Q) (r:Rp K F S H) {i:Bool} (q:QD (.bl i) S):Q (.bl i) H:=c.here r (by unfold RepV;rfl) q
theorem Rp.nmt (r:Rp K F S H) {a:Addr} (h:H a=none):¬ mt S F a:=λz=>by
 rcases z with z | z
 ·exact z (r.sn h)
 ·obtain⟨⟨zs,e,_⟩,_⟩:=r.frm a z;rw[h] at e;cases e
theorem Cn.tup (c:Cn K F S H QD Q) (r:Rp K F S H) {l:Addr} (h:H l=none) {ds:List D} {xs:List V} (rl:RepL K (mt S F) H ds xs) (q:QD (.tup ds) S):Q (.ref l) (upd H l (.tup xs)):=by
 have x:Ext S H S (upd H l (.tup xs)):=Ext.same (aQw h);refine c _ _ _ S x (r.same (aQw h)) ?_ q;unfold RepV;exact⟨l,xs,rfl,.inl ⟨r.nmt h,.inl aQg⟩,rl.ext x⟩
theorem Cn.lst (c:Cn K F S H QD Q) (r:Rp K F S H) {l:Addr} (h:H l=none) {ds:List D} {xs:List V} (rl:RepL K (mt S F) H ds xs) (q:QD (.lst ds) S):Q (.ref l) (upd H l (.lst xs)):=by
 have x:Ext S H S (upd H l (.lst xs)):=Ext.same (aQw h);refine c _ _ _ S x (r.same (aQw h)) ?_ q;unfold RepV;exact⟨l,xs,rfl,.inl ⟨r.nmt h,.inl aQg⟩,rl.ext x⟩
theorem Cn.lstR (c:Cn K F S H QD Q) (r:Rp K F S H) {l:Addr} (h:H l=none) {ds:List D} {xs:List V} (rl:RepL K (mt S F) H ds xs) (q:QD (.ref l) (supd S l (.lst ds))):Q (.ref l) (upd H l (.lst xs)):=by
 have x:Ext S H (supd S l (.lst ds)) (upd H l (.lst xs)):=Ext.mk' h;exact c _ _ _ _ x (r.mk' h ⟨xs,aQg,rl.ext x⟩) (by unfold RepV;rfl) q
def newL (b:Bool) (ds:List D) (S:Sto) (Q:DK):Prop:=match b with
 | false=>Q (.lst ds) S
 | true=>∀ p,S p=none->Q (.ref p) (supd S p (.lst ds))
theorem Cn.new (c:Cn K F S H QD Q) (r:Rp K F S H) {b:Bool} {l:Addr} (h:H l=none) {ds:List D} {xs:List V} (rl:RepL K (mt S F) H ds xs) (q:newL b ds S QD):Q (.ref l) (upd H l (.lst xs)):=by
 cases b with
 | false=>exact c.lst r h rl q
 | true=>exact c.lstR r h rl (q l (r.sn h))
def lsIs (S:Sto):D->List D->Prop
 | .lst ys,xs=>ys=xs
 | .ref a,xs=>S a=some (.lst xs)
 | _,_=>False
def sqIs (S:Sto):D->List D->Prop
 | .tup ys,xs=>ys=xs
 | .lst ys,xs=>ys=xs
 | .ref a,xs=>S a=some (.lst xs)
 | _,_=>False
theorem lsIs.sl (r:Rp K F S H) {d:D} {v:V} {ds:List D} (h:RepV K (mt S F) H d v) (l:lsIs S d ds):∃ a xs,v=.ref a/\SqL K H a xs/\RepL K (mt S F) H ds xs:=by
 cases d with
 | lst ys =>
  cases l;unfold RepV at h;obtain⟨a,xs,e,q,z⟩:=h;exact⟨a,xs,e,q.sq,z⟩
 | ref a =>
  unfold RepV at h;obtain⟨xs,e,z⟩:=r.obj a _ l;exact⟨a,xs,h,SqL.of e,z⟩
 | _=>exact l.elim
theorem tup.st {ds:List D} {v:V} (h:RepV K (mt S F) H (.tup ds) v):∃ a xs,v=.ref a/\SqT K H a xs/\RepL K (mt S F) H ds xs:=by
 unfold RepV at h;obtain⟨a,xs,e,t,z⟩:=h;exact⟨a,xs,e,t.sq,z⟩
theorem sqIs.sq (r:Rp K F S H) {d:D} {v:V} {ds:List D} (h:RepV K (mt S F) H d v) (l:sqIs S d ds):∃ a xs,v=.ref a/\(SqL K H a xs\/SqT K H a xs)/\RepL K (mt S F) H ds xs:=by
 cases d with
 | tup ys =>
  cases l;obtain⟨a,xs,e,t,z⟩:=tup.st h;exact⟨a,xs,e,.inr t,z⟩
 | lst ys =>
  obtain⟨a,xs,e,t,z⟩:=lsIs.sl r h (show lsIs S (.lst ys) ds from l)
  exact⟨a,xs,e,.inl t,z⟩
 | ref a =>
  obtain⟨a,xs,e,t,z⟩:=lsIs.sl r h (show lsIs S (.ref a) ds from l)
  exact⟨a,xs,e,.inl t,z⟩
 | _=>exact l.elim
theorem rint {i:Int} {v:V} (h:RepV K (mt S F) H (.int i) v):v=.int i:=by unfold RepV at h;exact h
theorem rstr {i:Str} {v:V} (h:RepV K (mt S F) H (.str i) v):v=.str i:=by unfold RepV at h;exact h
theorem rbl {i:Bool} {v:V} (h:RepV K (mt S F) H (.bl i) v):v=.bl i:=by unfold RepV at h;exact h
theorem rref {i:Addr} {v:V} (h:RepV K (mt S F) H (.ref i) v):v=.ref i:=by unfold RepV at h;exact h
theorem rnon {v:V} (h:RepV K (mt S F) H .non v):v=.non:=by unfold RepV at h;exact h
end
section
variable {X:Cx} {K:Fg}
def eJo (K:Fg):R2:=λx y H Q=>∃ l b xs zs,x=.ref l/\y=.ref b/\SqL K H l xs/\SqL K H b zs/\xs.length + zs.length<=sizeLine/\∀ p,H p=none->Q (.ref p) (upd H p (.lst (xs++zs)))
theorem eQ9 (hK:X.K=K:=by rfl):OpR X (eF .Add) (eJo K):=by
 subst hK;intro pins s σ H x y v u Q I rx ry h;obtain⟨l,b,xs,zs,rfl,rfl,hH,hB,hz,q⟩:=h;cases rx;cases ry;obtain⟨its,r,⟨⟨cls,dd,data,sl⟩,n,N,O,hd,D⟩,Z⟩:=I.list hH;obtain⟨j,L,⟨⟨R,dd2,data2,J⟩,U,B,G,hd2,z⟩,Y⟩:=I.list hB;simp only at O hd D G hd2 z;subst O hd D G hd2 z;have h1:=r.length;have h2:=L.length;refine i7 ⟨_,N,rfl⟩ ⟨_,B,rfl⟩ noFill_list_add seq_list_add PySem.F.slot_list_add PySem.F.entry_list_add (PySem.F.args_list_add_2 _ _)
  (list_addW l b its.toArray j.toArray n U none none sl J (by rw[am,am];lia)) ⟨N,B,?_⟩
 have ea:its.toArray++j.toArray=(its++j).toArray:=by simp
 rw[ea];exact⟨.ref _,_,I.lnew (t':=s.toks) (r.append L) (by rw[av];lia),rfl,q _ I.fresh⟩
def eJp (K:Fg):R2:=λx y H Q=>∃ a b ys,x=.ref a/\y=.ref b/\SqT K H a []/\SqT K H b ys/\Q (.ref b) H
theorem eQa (hK:X.K=K:=by rfl):OpR X (eF .Add) (eJp K):=by
 subst hK;intro pins s σ H x y v u Q I rx ry h;obtain⟨a,b,ys,rfl,rfl,Y,U,q⟩:=h;cases rx;cases ry;obtain⟨its,r1,O,_⟩:=I.tuple Y;obtain⟨G,Z,p2,_⟩:=I.tuple U;cases r1;obtain⟨⟨cls,dd,data,sl⟩,J,L,n,hd⟩:=id O;obtain⟨⟨N,D,data2,B⟩,j,z,R,hd2⟩:=id p2;simp only at L hd z hd2;subst L hd z hd2;exact i7 ⟨_,J,rfl⟩ ⟨_,j,rfl⟩ iH seq_tuple_add fW fR (fC _ _)
   (tuple_addW0 a b _ _ n R dd D sl B rfl) ⟨J,j,⟨.ref b,H,I,rfl,q⟩⟩
def addD (b:Bool):R2D:=λd e S Q=>match d,e with
 | .int i,.int j=>Q (.int (i + j)) S
 | .str x,.str y=>x.length + y.length<=sizeLine/\Q (.str (x++y)) S
 | .tup xs,.tup ys=>xs.length + ys.length<=sizeLine/\Q (.tup (xs++ys)) S
 | d,e=>∃ xs ys,lsIs S d xs/\lsIs S e ys/\xs.length + ys.length<=sizeLine/\newL b (xs++ys) S Q
def eQb (K:Fg):R2:=λx y H Q=>rI0 (λi j=>.int (i + j)) x y H Q\/(∃ i j,x=.str i/\y=.str j/\i.length + j.length<=sizeLine/\Q (.str (i++j)) H)\/dJg K x y H Q\/eJp K x y H Q\/eJo K x y H Q
theorem eQc (hK:X.K=K:=by rfl):OpR X (eF .Add) (eQb K):=op_add.or (op_add_str.or ((dZ4 hK).or ((eQa hK).or (eQ9 hK))))
theorem eJq {b:Bool}:OpD K (eQb K) (addD b):=by
 intro F S H d e x y Q QD r hd he h c;have lists:(∃ xs ys,lsIs S d xs/\lsIs S e ys/\xs.length + ys.length<=sizeLine/\newL b (xs++ys) S QD)->eQb K x y H Q:=by
  rintro⟨xs,ys,L,J,N,q⟩;obtain⟨a,us,rfl,s1,B⟩:=lsIs.sl r hd L;obtain⟨a2,us2,rfl,s2,p2⟩:=lsIs.sl r he J;exact .inr (.inr (.inr (.inr ⟨a,a2,us,us2,rfl,rfl,s1,s2,by rw[B.length,p2.length];exact N,λp D=>c.new r D (B.app p2) q⟩)))
 cases d with
 | int i =>
  cases e with
  | int j=>rw[rint hd,rint he];exact .inl ⟨i,j,rfl,rfl,c.int r h⟩
  | _=>exact lists h
 | str i =>
  cases e with
  | str j=>rw[rstr hd,rstr he];exact .inr (.inl ⟨i,j,rfl,rfl,h.1,c.str r h.2⟩)
  | _=>exact lists h
 | tup xs =>
  cases e with
  | tup ys =>
   obtain⟨a,us,rfl,s1,B⟩:=tup.st hd;obtain⟨a2,us2,rfl,s2,p2⟩:=tup.st he
   by_cases G:xs=[]
   ·subst G;unfold RepL at B;subst B;exact .inr (.inr (.inr (.inl ⟨a,a2,us2,rfl,rfl,s1,s2,c.here r he (by simpa using h.2)⟩)))
   ·refine .inr (.inr (.inl ⟨a,a2,us,us2,rfl,rfl,s1,s2,λz=>G ?_,by rw[B.length,p2.length];exact h.1,λz=>?_,λ_ p D=>c.tup r D (B.app p2) h.2⟩))
    ·have:=B.length;rw[z] at this;exact bV this.symm
    ·have h0:ys=[]:=by have:=p2.length;rw[z] at this;exact bV this.symm
     subst h0;exact c.here r hd (by simpa using h.2)
  | _=>exact lists h
 | _=>exact lists h
def iiD (C:Int->Int->Prop) (g:Int->Int->D):R2D:=λd e S Q=>match d,e with
 | .int i,.int j=>C i j/\Q (g i j) S
 | _,_=>False
theorem od_I {C:Int->Int->Prop} {g:Int->Int->Int}:OpD K (rI C λi j=>.int (g i j)) (iiD C λi j=>.int (g i j)):=by
 intro F S H d e x y Q QD r hd he h c;cases d with
 | int i =>
  cases e with
  | int j=>rw[rint hd,rint he];exact⟨i,j,rfl,rfl,h.1,c.int r h.2⟩
  | _=>exact h.elim
 | _=>exact h.elim
def iiD0 (g:Int->Int->D):R2D:=λd e S Q=>match d,e with
 | .int i,.int j=>Q (g i j) S
 | _,_=>False
theorem eJr {g:Int->Int->Bool}:OpD K (rI0 λi j=>.bl (g i j)) (iiD0 λi j=>.bl (g i j)):=by
 intro F S H d e x y Q QD r hd he h c;cases d with
 | int i =>
  cases e with
  | int j=>rw[rint hd,rint he];exact⟨i,j,rfl,rfl,c.bl r h⟩
  | _=>exact h.elim
 | _=>exact h.elim
section
variable {a b:Expr} {ta tb:ED} {pos:Pos}
theorem aQz {k:Bool} (ha:PD K X a ta) (hb:PD K X b tb) (hK:X.K=K:=by rfl):PD K X (.BinOp a .Add b pos) (dOp (addD k) ta tb):=e_op (eQc hK) eJq ha hb
theorem dZa (ha:PD K X a ta) (hb:PD K X b tb):PD K X (.BinOp a .Mult b pos) (dOp (iiD CMul λi j=>.int (i * j)) ta tb):=e_op eXe od_I ha hb
theorem bXf (ha:PD K X a ta) (hb:PD K X b tb):PD K X (.BinOp a .Mod b pos) (dOp (iiD (λ_ j=>0 < j) λi j=>.int (i % j)) ta tb):=e_op eXf od_I ha hb
theorem cJ4 (ha:PD K X a ta) (hb:PD K X b tb):PD K X (.BinOp a .FloorDiv b pos) (dOp (iiD CDiv λi j=>.int (i / j)) ta tb):=e_op dJ9 od_I ha hb
theorem fX2 (ha:PD K X a ta) (hb:PD K X b tb):PD K X (.BinOp a .Pow b pos) (dOp (iiD CPow λi j=>.int (i ^ j.toNat)) ta tb):=e_op eXg od_I ha hb
end
def dNil:AD:=λ_ S Q=>Q [] S
def cJ5 (ta:ED) (tr:AD):AD:=fun Γ S Q=>ta Γ S λx S1=>tr Γ S1 λxs S2=>Q (x::xs) S2
theorem aQ1:PAD K X [] dNil:=.of bX0 fun σ H Q j=>j.el λF S Γ QD r g q c=>c [] [] H S (Ext.refl _ _) r RepL.nil q
theorem aQ0 {e:Expr} {es:List Expr} {te:ED} {t:AD} (ha:PD K X e te) (hr:PAD K X es t) (hs:ay (e::es) X.env=(false,eval e X.env)::ay es X.env:=by rfl):PAD K X (e::es) (cJ5 te t) :=
 .of (aJl ha.o hr.o hs) fun σ H Q B=>B.el λF S Γ QD r g q c=>⟨F,S,Γ,_,r,g,q,λv d H1 R z J v1 N=>⟨F,R,Γ,_,J,g.ext z,N,λD ds H2 O j G v2 L=>c (v::D) (d::ds) H2 O (z.trans j) G (RepL.cons (v1.ext j) v2) L⟩⟩
def dTup (t:AD):ED:=fun Γ S Q=>t Γ S λds S1=>ds.length<=sizeLine/\Q (.tup ds) S1
def dLst (b:Bool) (t:AD):ED:=fun Γ S Q=>t Γ S λds S1=>ds.length<=sizeLine/\newL b ds S1 Q
theorem Cn.shift {F:Am} {S S1:Sto} {H H1:Hp} {QD:DK} {Q:VK} (c:∀ v d H' S',Ext S H S' H'->Rp K F S' H'->RepV K (mt S' F) H' d v->QD d S'->Q v H') (x:Ext S H S1 H1):Cn K F S1 H1 QD Q:=λv z B q j=>c v z B q (x.trans j)
theorem bQ1 {es:List Expr} {t:AD} {x1 pos} (h:PAD K X es t):PD K X (.Tuple es x1 pos) (dTup t):=.of (eXl h.o) fun σ H Q z=>z.el λF S Γ QD r g q c =>
 ⟨F,S,Γ,_,r,g,q,λG ds H1 J x1 B v1 j=>⟨by rw[v1.length];exact j.1,λp D=>(Cn.shift c x1).tup B D v1 j.2⟩⟩
theorem aZu {b:Bool} {es:List Expr} {t:AD} {pos} (h:PAD K X es t):PD K X (.List es pos) (dLst b t):=.of (eXm h.o) fun σ H Q z=>z.el λF S Γ QD r g q c =>
 ⟨F,S,Γ,_,r,g,q,λJ ds H1 L B D v1 j=>⟨by rw[v1.length];exact j.1,λp G=>(Cn.shift c B).new D G v1 j.2⟩⟩
abbrev RCD:=List D->Sto->DK->Prop
def bZi (K:Fg) (r:List V->Hp->VK->Prop) (rd:RCD):Prop:=∀ F S H ds vs Q QD,Rp K F S H->RepL K (mt S F) H ds vs->rd ds S QD->Cn K F S H QD Q->r vs H Q
def dCB (rd:RCD) (t:AD):ED:=fun Γ S Q=>t Γ S λds S1=>rd ds S1 Q
theorem eJs {r:List V->Hp->VK->Prop} {rd:RCD} {t:AD} (h:bZi K r rd):∀ σ H Q,upE K (dCB rd t) σ H Q->tCB r (upA K t) σ H Q:=fun σ H Q j=>j.el λF S Γ QD r g q c =>
 ⟨F,S,Γ,_,r,g,q,λB ds H1 J z D v1 G=>h F J H1 ds B Q QD D v1 G (Cn.shift c z)⟩
theorem aXs {id:String} {r:List V->Hp->VK->Prop} {rd:RCD} {x:Str} {p pos:Pos} {e:Expr} {es:List Expr} {t:AD} (hc:CallR X (.builtin id) r) (h:bZi K r rd) (hg:Gl X x) (hm:X.mg x=none) (hv:cu x=some (.builtin id)) (ha:PAD K X (e::es) t) (hn:x ≠ "__name__":=by decide) (hdb:(x == ("__debug__" : Str))=false:=by decide)
  (he:ay (e::es) X.env=(false,eval e X.env)::ay es X.env:=by rfl) (hpl:(cD pos (ay es X.env)).any (·.1)=false:=by rfl):PD K X (.Call (.Name x p) (e::es) [] pos) (dCB rd t):=.of (bZ3 hc hg hm hv ha.o hn hdb he hpl) (eJs h)
theorem aJg {T:String} {r:List V->Hp->VK->Prop} {rd:RCD} {x:Str} {p pos:Pos} {e:Expr} {es:List Expr} {t:AD} (hc:CallR X (.type T) r) (h:bZi K r rd) (hg:Gl X x) (hm:X.mg x=none) (hv:cu x=some (.type T)) (ha:PAD K X (e::es) t) (hn:x ≠ "__name__":=by decide) (hdb:(x == ("__debug__" : Str))=false:=by decide)
  (he:ay (e::es) X.env=(false,eval e X.env)::ay es X.env:=by rfl) (hpl:(cD pos (ay es X.env)).any (·.1)=false:=by rfl):PD K X (.Call (.Name x p) (e::es) [] pos) (dCB rd t):=.of (aJm hc hg hm hv ha.o hn hdb he hpl) (eJs h)
end
mutual
def beqD:D->D->Bool
 | .non,.non=>true
 | .bl a,.bl b=>a == b
 | .int a,.int b=>decide (a=b)
 | .str a,.str b=>decide (a=b)
 | .ty a,.ty b=>decide (a=b)
 | .ref a,.ref b=>decide (a=b)
 | .tup a,.tup b=>bJi a b
 | .lst a,.lst b=>bJi a b
 | _,_=>false
def bJi:List D->List D->Bool
 | [],[]=>true
 | a::as,b::bs=>beqD a b && bJi as bs
 | _,_=>false
end
theorem bqE {α:Type} [BEq α] [LawfulBEq α] {c:α->D} (inj:∀ x y,c x=c y->x=y) (x y:α):(x == y)=true↔c x=c y:=⟨λh=>congrArg c (beq_iff_eq.mp h),λh=>beq_iff_eq.mpr (inj x y h)⟩
theorem bdE {α:Type} {c:α->D} (inj:∀ x y,c x=c y->x=y) (x y:α) {d:Decidable (x=y)}:@decide (x=y) d=true↔c x=c y:=⟨λh=>congrArg c (of_decide_eq_true h),λh=>decide_eq_true (inj x y h)⟩
theorem bnE {p:Prop} (h:¬ p):false=true↔p:=⟨λz=>absurd z b8,λz=>absurd z h⟩
mutual
theorem cJ6:∀ {a b:D},beqD a b=true↔a=b
 | .non,b=>by
  cases b with
  | non=>exact⟨λ_=>rfl,λ_=>rfl⟩
  | _=>exact bnE (λh=>by cases h)
 | .bl x,b=>by
  cases b with
  | bl y=>exact bqE (λ_ _ h=>by injection h) x y
  | _=>exact bnE (λh=>by cases h)
 | .int x,b=>by
  cases b with
  | int y=>exact bdE (λ_ _ h=>by injection h) x y
  | _=>exact bnE (λh=>by cases h)
 | .str x,b=>by
  cases b with
  | str y=>exact bdE (λ_ _ h=>by injection h) x y
  | _=>exact bnE (λh=>by cases h)
 | .ty x,b=>by
  cases b with
  | ty y=>exact bdE (λ_ _ h=>by injection h) x y
  | _=>exact bnE (λh=>by cases h)
 | .ref x,b=>by
  cases b with
  | ref y=>exact bdE (λ_ _ h=>by injection h) x y
  | _=>exact bnE (λh=>by cases h)
 | .tup as,b=>by
  cases b with
  | tup bs=>exact beqDs_eq.trans ⟨λh=>congrArg D.tup h,λh=>by injection h⟩
  | _=>exact bnE (λh=>by cases h)
 | .lst as,b=>by
  cases b with
  | lst bs=>exact beqDs_eq.trans ⟨λh=>congrArg D.lst h,λh=>by injection h⟩
  | _=>exact bnE (λh=>by cases h)
theorem beqDs_eq:∀ {a b:List D},bJi a b=true↔a=b
 | [],b=>by cases b <;> simp[bJi]
 | a::as,[]=>by simp[bJi]
 | a::as,b::bs=>by
  simp only[bJi,bm,List.cons.injEq];rw[cJ6,beqDs_eq]
end
instance:DecidableEq D:=λa b=>decidable_of_iff _ (cJ6 (a:=a) (b:=b))
def okE:Nat->D->D->Bool
 | _,.int _,.int _=>true
 | _,.str _,.str _=>true
 | _,.bl _,.bl _=>true
 | _,.non,.non=>true
 | _,.non,.int _=>true
 | _,.int _,.non=>true
 | _,.non,.str _=>true
 | _,.str _,.non=>true
 | n + 1,.non,.tup _=>true
 | n + 1,.tup _,.non=>true
 | n + 1,.tup xs,.tup ys=>(xs.zip ys).all λp=>okE n p.1 p.2
 | n + 1,.lst xs,.lst ys=>(xs.zip ys).all λp=>okE n p.1 p.2
 | _,_,_=>false
abbrev okEs (n:Nat) (xs ys:List D):Bool:=(xs.zip ys).all λp=>okE n p.1 p.2
section
variable {X:Cx} {pins:List (Addr × Obj)} {σ:St} {H:Hp} {s:ai} {M:Am}
structure Eq3 (A:aY) (s:ai) (u v:ad) (b:Bool):Prop where
 eq:cW A s u v b
 rc:SeqAt.RcAt A s u v b
 ne:cw A s u v (!b)
theorem eQd {xs ys:List D}:decide (D.tup xs=D.tup ys)=decide (xs=ys):=by simp
theorem eQe {xs ys:List D}:decide (D.lst xs=D.lst ys)=decide (xs=ys):=by simp
theorem eQf {xs ys:List D} {j:Nat} {a b:D} (h1:xs[j]?=some a) (h2:ys[j]?=some b):(a,b)∈xs.zip ys:=by
 have B:j < xs.length:=by
  rcases Nat.lt_or_ge j xs.length with z | z
  ·exact z
  ·rw[bu z] at h1;cases h1
 have q:j < ys.length:=by
  rcases Nat.lt_or_ge j ys.length with z | z
  ·exact z
  ·rw[bu z] at h2;cases h2
 have e1:xs[j]=a:=by rw[af B] at h1;exact aR h1
 have e2:ys[j]=b:=by rw[af q] at h2;exact aR h2
 have G:j < (xs.zip ys).length:=by rw[List.length_zip];lia
 have:(xs.zip ys)[j]=(a,b):=by rw[List.getElem_zip,e1,e2]
 rw[<- this];exact cM G
theorem dXp {n:Nat} {xs ys:List V} {us vs:List ad} {ds es:List D} {A:aY} (p:RepL X.K M H ds xs) (p':RepL X.K M H es ys) (r:Vals xs us) (r':Vals ys vs) (hz:okEs n ds es=true)
  (ih:∀ {d e:D} {x y:V} {u v:ad},RepV X.K M H d x->RepV X.K M H e y->RelV x u->RelV y v->okE n d e=true->Eq3 A s u v (decide (d=e))) :
  ∀ j (h1:j < us.toArray.size) (h2:j < vs.toArray.size),cW A s us.toArray[j] vs.toArray[j] (decide (ds[j]?=es[j]?)):=by
 intro j h1 h2;simp only[am] at h1 h2;have G:j < xs.length:=by have:=r.length;lia
 have B:j < ys.length:=by have:=r'.length;lia
 obtain⟨d,N,rd⟩:=p.get' (af G);obtain⟨e,L,re⟩:=p'.get' (af B);obtain⟨u,J,R⟩:=r.get (af G);obtain⟨v,ev,O⟩:=r'.get (af B);have z:us[j]=u:=by rw[af h1] at J;exact aR J
 have q:vs[j]=v:=by rw[af h2] at ev;exact aR ev
 have:decide (ds[j]?=es[j]?)=decide (d=e):=by rw[N,L];simp
 rw[this];simp only[List.getElem_toArray];rw[z,q];exact(ih rd re R O (br.mp hz _ (eQf N L))).eq
theorem dXq {n:Nat} {a b:Addr} {xs ys:List V} {ds es:List D} {A:aY} (I:Inv X pins σ H s) (q:SqL X.K H a xs) (q':SqL X.K H b ys) (p:RepL X.K M H ds xs) (p':RepL X.K M H es ys) (hz:okEs n ds es=true) (hu:A.units + (n + 1) < cx)
  (ih:∀ {d e:D} {x y:V} {u v:ad},RepV X.K M H d x->RepV X.K M H e y->RelV x u->RelV y v->okE n d e=true->Eq3 A.in1 s u v (decide (d=e))) :
  SeqAt.RcAt A s (.ref a) (.ref b) (decide (ds=es))/\cw A s (.ref a) (.ref b) (!decide (ds=es)):=by
 obtain⟨us,N,pl,_⟩:=I.list q;obtain⟨vs,L,z,_⟩:=I.list q';have Y:=p.length;have U:=p'.length;have R:=N.length;have O:=L.length;have it:=dXp (A:=A.in1) p p' N L hz ih
 by_cases hl:ds.length=es.length
 ·have B:us.toArray.size=vs.toArray.size:=by rw[am,am];lia
  have J:((aT (us.toArray.size)).all λj=>decide (ds[j]?=es[j]?))=decide (ds=es):=by
   have:=cXe ds es us.toArray.size vs.toArray.size (by rw[am];lia) (by rw[am];lia)
   rw[B,Nat.min_self] at this;rw[B,<- this];simp
  have h1:=SeqAt.RcAt.lists (e:=λj=>decide (ds[j]?=es[j]?)) pl.isList z.isList B (show A.units < cx by lia) λj h1 h2=>it j h1 h2
  have h2:=cw.lists (e:=λj=>decide (ds[j]?=es[j]?)) pl.isList z.isList B (show A.units < cx by lia) λj h1 h2=>it j h1 h2
  rw[J] at h1 h2;exact⟨h1,h2⟩
 ·have B:(us.toArray.size != vs.toArray.size)=true:=by rw[am,am];simp;lia
  have G:ds≠es:=λe=>hl (by rw[e])
  rw[decide_eq_false G];exact⟨SeqAt.RcAt.lists_lengths pl.isList z.isList B (by lia),cw.lists_lengths pl.isList z.isList B (by lia)⟩
theorem eQg {n:Nat} (ih:∀ {d e:D} {v:V},RepV X.K M H d v->RepV X.K M H e v->okE n d e=true->d=e):∀ {ds es:List D} {xs:List V},RepL X.K M H ds xs->RepL X.K M H es xs->okEs n ds es=true->ds=es
 | [],[],_,_,_,_=>rfl
 | [],e::es,xs,p,j,_=>by have h1:=p.length;have h2:=j.length;rw[h1] at h2;simp at h2
 | d::ds,[],xs,p,j,_=>by have h1:=p.length;have h2:=j.length;rw[h1] at h2;simp at h2
 | d::ds,e::es,xs,p,j,h=>by
  unfold RepL at p j;obtain⟨v,G,rfl,r,l⟩:=p;obtain⟨J,q,e1,z,B⟩:=j;cases e1;simp only[okEs,eR,List.all_cons,bm] at h;rw[ih r z h.1,eQg ih l B h.2]
theorem uniq (I:Inv X pins σ H s):∀ (n:Nat) {d e:D} {v:V},RepV X.K M H d v->RepV X.K M H e v->okE n d e=true->d=e:=by
 intro n
 induction n with
 | zero =>
  intro d e v h h' o;cases d <;> cases e <;> first | rfl | (cases o;done) | (unfold RepV at h h';rw[h] at h';cases h';done) | (unfold RepV at h h';rw[h] at h';cases h';rfl)
 | succ n z =>
  intro d e v h h' o;cases d <;> cases e <;> first | rfl | (cases o;done) | (unfold RepV at h h';rw[h] at h';cases h';done) | (unfold RepV at h h';rw[h] at h';cases h';rfl) | skip
  ·unfold RepV at h h';obtain⟨a,xs,e1,_⟩:=h';rw[h] at e1;cases e1
  ·unfold RepV at h h';obtain⟨a,xs,e1,_⟩:=h;rw[h'] at e1;cases e1
  ·unfold RepV at h h';obtain⟨a,xs,rfl,t,l⟩:=h;obtain⟨b,ys,e1,j,q⟩:=h';cases e1
   have:=I.tuple_inj t.sq j.sq
   subst this;rw[eQg z l q o]
  ·unfold RepV at h h';obtain⟨a,xs,rfl,t,l⟩:=h;obtain⟨b,ys,e1,j,q⟩:=h';cases e1
   have:=I.list_inj t.sq j.sq
   subst this;rw[eQg z l q o]
theorem eq3 (I:Inv X pins σ H s):∀ (n:Nat) {A:aY} {d e:D} {x y:V} {u v:ad},A.units + n < cx->RepV X.K M H d x->RepV X.K M H e y->RelV x u->RelV y v->okE n d e=true->Eq3 A s u v (decide (d=e)):=by
 intro n
 induction n with
 | zero =>
  intro A d e x y u v hu h h' r r' o;cases d <;> cases e <;> first | (cases o;done) | skip
  all_goals unfold RepV at h h';subst h;subst h'
  ·cases r;cases r';exact⟨jh _,SeqAt.RcAt.none_none,cw.none_none⟩
  ·cases r;obtain⟨t,rfl⟩:=r';exact⟨cW.none_int _ _,SeqAt.RcAt.none_int _ _,cw.none_int _ _⟩
  ·cases r;obtain⟨t,rfl⟩:=r';exact⟨cW.none_str _ _,SeqAt.RcAt.none_str _ _,cw.none_str _ _⟩
  ·cases r;cases r';rw[show ∀ a b:Bool,decide (D.bl a=D.bl b)=(a == b) from by intro a b;cases a <;> cases b <;> rfl];exact⟨cW.bool_bool _ _,SeqAt.RcAt.bool_bool _ _,cw.bool_bool _ _⟩
  ·obtain⟨t,rfl⟩:=r;cases r';exact⟨cW.int_none _ _,SeqAt.RcAt.int_none _ _,cw.int_none _ _⟩
  ·obtain⟨t,rfl⟩:=r;obtain⟨J,rfl⟩:=r';rw[show ∀ a b:Int,decide (D.int a=D.int b)=(a == b) from by intro a b;rw[beq_dec];simp];exact⟨cW.int_int _ _ _ _,SeqAt.RcAt.int_int _ _ _ _,cw.int_int _ _ _ _⟩
  ·obtain⟨t,rfl⟩:=r;cases r';exact⟨cW.str_none _ _,SeqAt.RcAt.str_none _ _,cw.str_none _ _⟩
  ·obtain⟨t,rfl⟩:=r;obtain⟨J,rfl⟩:=r';rw[show ∀ a b:Str,decide (D.str a=D.str b)=(a == b) from by intro a b;rw[beq_dec];simp];exact⟨hW _ _ _ _,SeqAt.RcAt.str_str _ _ _ _,cw.str_str _ _ _ _⟩
 | succ n B =>
  intro A d e x y u v hu h h' r r' o;cases d <;> cases e <;> first | (cases o;done) | skip
  ·exact B (by lia) h h' r r' (by cases n <;> rfl)
  ·exact B (by lia) h h' r r' (by cases n <;> rfl)
  ·exact B (by lia) h h' r r' (by cases n <;> rfl)
  ·unfold RepV at h;subst h;cases r;obtain⟨a,xs,rfl,t,l⟩:=(show RepV X.K M H (.tup _) y from h')
   cases r';obtain⟨us,N,pl,_⟩:=I.tuple t.sq;exact⟨cW.none_tuple pl (by lia),SeqAt.RcAt.none_tuple pl (by lia),cw.none_tuple pl (by lia)⟩
  ·exact B (by lia) h h' r r' (by cases n <;> rfl)
  ·exact B (by lia) h h' r r' (by cases n <;> rfl)
  ·exact B (by lia) h h' r r' (by cases n <;> rfl)
  ·exact B (by lia) h h' r r' (by cases n <;> rfl)
  ·exact B (by lia) h h' r r' (by cases n <;> rfl)
  ·unfold RepV at h';subst h';cases r';obtain⟨a,xs,rfl,t,l⟩:=(show RepV X.K M H (.tup _) x from h)
   cases r;obtain⟨us,N,pl,_⟩:=I.tuple t.sq;exact⟨cW.tuple_none pl (by lia),SeqAt.RcAt.tuple_none pl (by lia),cw.tuple_none pl (by lia)⟩
  ·rename_i ds es;have un:=λ{e:D}=>uniq (e:=e) I (n + 1) h;have h0:=h;have G:=h';unfold RepV at h h';obtain⟨a,xs,rfl,t,l⟩:=h;obtain⟨b,ys,rfl,J,O⟩:=h';cases r;cases r';obtain⟨us,N,pl,_⟩:=I.tuple t.sq;obtain⟨vs,Z,L,_⟩:=I.tuple J.sq;have l1:=l.length;have l2:=O.length;have l3:=N.length;have l4:=Z.length;have it:=dXp (A:=A.in1) l O N Z o λq U z R o=>B (show A.units + 1 + n < cx by lia) q U z R o
   have Y:=cXe ds es us.toArray.size vs.toArray.size (by rw[am];lia) (by rw[am];lia)
   have h1:=SeqAt.RcAt.tuples pl L (show A.units < cx by lia) it
   have h2:=cw.tuples pl L (show A.units < cx by lia) it
   rw[Y] at h1 h2;rw[eQd];refine⟨?_,h1,h2⟩
   by_cases j:a=b
   ·subst j;have e1:=un G o;cases e1;rw[decide_eq_true rfl];exact jh _
   ·exact jy j h1
  ·have un:=λ{e:D}=>uniq (e:=e) I (n + 1) h;have G:=h';unfold RepV at h h';obtain⟨a,xs,rfl,t,l⟩:=h;obtain⟨b,ys,rfl,J,O⟩:=h';cases r;cases r';obtain⟨h1,h2⟩:=dXq (A:=A) (n:=n) I t.sq J.sq l O o hu λq U z R o=>B (show A.units + 1 + n < cx by lia) q U z R o
   rw[eQe];refine⟨?_,h1,h2⟩
   by_cases j:a=b
   ·subst j;have e1:=un G o;cases e1;rw[decide_eq_true rfl];exact jh _
   ·exact jy j h1
def eqD (neg:Bool):R2D:=λd e S Q=>match d,e with
 | .ref a,e=>∃ xs ys,S a=some (.lst xs)/\lsIs S e ys/\okEs 8 xs ys=true/\Q (.bl (if neg then !decide (xs=ys) else decide (xs=ys))) S
 | .lst xs,.ref a=>∃ ys,S a=some (.lst ys)/\okEs 8 xs ys=true/\Q (.bl (if neg then !decide (xs=ys) else decide (xs=ys))) S
 | d,e=>okE 9 d e=true/\Q (.bl (if neg then !decide (d=e) else decide (d=e))) S
def rEqA (K:Fg) (neg:Bool):R2:=λx y H Q=>∃ b,(∀ {X:Cx} {pins:List (Addr × Obj)} {σ:St} {s:ai},Inv X pins σ H s->X.K=K->∀ {u v:ad},RelV x u->RelV y v->∀ A:aY,A.units + 9 < cx->SeqAt.RcAt A s u v b/\cw A s u v (!b))/\Q (.bl (if neg then !b else b)) H
theorem dXr {K:Fg} (hu:X.A.units + 9 < cx) (hK:X.K=K:=by rfl):OpR X (dl .Eq) (rEqA K false):=by
 intro pins s σ H x y v u Q I z j ⟨b,h,q⟩;exact(h I hK z j X.A hu).1 _ _ _ _ ⟨.bl b,H,I,rfl,q⟩
theorem eJt {K:Fg} (hu:X.A.units + 9 < cx) (hK:X.K=K:=by rfl):OpR X (dl .NotEq) (rEqA K true):=by
 intro pins s σ H x y v u Q I z j ⟨b,h,q⟩;exact(h I hK z j X.A hu).2 _ _ _ _ ⟨.bl (!b),H,I,rfl,q⟩
theorem eQh {K:Fg} {neg:Bool}:OpD K (rEqA K neg) (eqD neg):=by
 intro F S H d e x y Q QD r hd he h c;have lists:∀ {xs ys:List D},lsIs S d xs->lsIs S e ys->okEs 8 xs ys=true->QD (.bl (if neg then !decide (xs=ys) else decide (xs=ys))) S->rEqA K neg x y H Q:=by
  intro xs ys U R o q;obtain⟨a,us,rfl,s1,O⟩:=lsIs.sl r hd U;obtain⟨a2,us2,rfl,s2,p2⟩:=lsIs.sl r he R;refine⟨_,λ{X pins σ s} I j u v ru rv A B=>?_,c.bl r q⟩;subst j;cases ru;cases rv;exact dXq I s1 s2 O p2 o B λq N z L o=>eq3 I 8 (show A.units + 1 + 8 < cx by lia) q N z L o
 have plain:okE 9 d e=true->QD (.bl (if neg then !decide (d=e) else decide (d=e))) S->rEqA K neg x y H Q:=by
  intro o q;refine⟨_,λ{X pins σ s} I j u v ru rv A B=>?_,c.bl r q⟩;subst j
  have:=eq3 I 9 B hd he ru rv o
  exact⟨this.rc,this.ne⟩
 cases d with
 | ref a=>obtain⟨xs,ys,h1,h2,J,G⟩:=h;exact lists h1 h2 J G
 | lst xs =>
  cases e with
  | ref a=>obtain⟨ys,h2,J,G⟩:=h;exact lists rfl h2 J G
  | _=>exact plain h.1 h.2
 | _=>exact plain h.1 h.2
mutual
def plain:D->Bool
 | .non=>true
 | .bl _=>true
 | .int _=>true
 | .str _=>true
 | .tup xs=>aZ6 xs
 | _=>false
def aZ6:List D->Bool
 | []=>true
 | x::xs=>plain x && aZ6 xs
end
mutual
theorem cQl (I:Inv X pins σ H s):∀ {d e:D} {v:V},plain d=true->plain e=true->RepV X.K M H d v->RepV X.K M H e v->d=e
 | .tup ds,e,v,p,p',h,h'=>by
  cases e with
  | tup es =>
   unfold RepV at h h';obtain⟨a,xs,rfl,t,l⟩:=h;obtain⟨b,ys,e1,j,q⟩:=h';cases e1
   have:=I.tuple_inj t.sq j.sq
   subst this;unfold plain at p p';rw[bXg I p p' l q]
  | lst _=>cases p'
  | ref _=>cases p'
  | ty _=>cases p'
  | _ =>
   unfold RepV at h h';obtain⟨a,xs,e1,_⟩:=h;rw[h'] at e1;cases e1
 | .non,e,v,p,p',h,h'=>by
  cases e <;> first | rfl | (cases p';done) | (unfold RepV at h h';rw[h] at h';cases h';done) | (unfold RepV at h h';obtain⟨a,xs,e1,_⟩:=h';rw[h] at e1;cases e1)
 | .bl _,e,v,p,p',h,h'=>by
  cases e <;> first | (cases p';done) | (unfold RepV at h h';rw[h] at h';cases h';done) | (unfold RepV at h h';rw[h] at h';cases h';rfl) | (unfold RepV at h h';obtain⟨a,xs,e1,_⟩:=h';rw[h] at e1;cases e1)
 | .int _,e,v,p,p',h,h'=>by
  cases e <;> first | (cases p';done) | (unfold RepV at h h';rw[h] at h';cases h';done) | (unfold RepV at h h';rw[h] at h';cases h';rfl) | (unfold RepV at h h';obtain⟨a,xs,e1,_⟩:=h';rw[h] at e1;cases e1)
 | .str _,e,v,p,p',h,h'=>by
  cases e <;> first | (cases p';done) | (unfold RepV at h h';rw[h] at h';cases h';done) | (unfold RepV at h h';rw[h] at h';cases h';rfl) | (unfold RepV at h h';obtain⟨a,xs,e1,_⟩:=h';rw[h] at e1;cases e1)
 | .ty _,e,v,p,p',h,h'=>by cases p
 | .ref _,e,v,p,p',h,h'=>by cases p
 | .lst _,e,v,p,p',h,h'=>by cases p
theorem bXg (I:Inv X pins σ H s):∀ {ds es:List D} {vs:List V},aZ6 ds=true->aZ6 es=true->RepL X.K M H ds vs->RepL X.K M H es vs->ds=es
 | [],es,vs,p,q,l,j=>by
  have h1:=l.length;have h2:=j.length;rw[h1] at h2;exact(bV h2.symm).symm
 | d::ds,[],vs,p,q,l,j=>by have h1:=l.length;have h2:=j.length;rw[h1] at h2;simp at h2
 | d::ds,e::es,vs,p,q,l,j=>by
  unfold RepL at l j;obtain⟨v,vs,rfl,r,l⟩:=l;obtain⟨G,z,e1,B,j⟩:=j;cases e1;simp only[aZ6,bm] at p q;rw[cQl I p.1 q.1 r B,bXg I p.2 q.2 l j]
end
theorem aXt:∀ {ds:List D},aZ6 ds=true->∀ d∈ds,plain d=true
 | [],_,d,h=>by cases h
 | x::ds,p,d,h=>by
  simp only[aZ6,bm] at p;rcases aB.mp h with rfl | h
  ·exact p.1
  ·exact aXt p.2 d h
def rInA (K:Fg) (neg:Bool):R2:=λx y H Q=>∃ p xs b,y=.ref p/\(SqL K H p xs\/SqT K H p xs) /\
 (∀ {X:Cx} {pins:List (Addr × Obj)} {σ:St} {s:ai},Inv X pins σ H s->X.K=K->∀ {v:ad} {us:List ad},RelV x v->Vals xs us->∀ A:aY,A.units + 9 < cx->∃ f:ad->Bool,(∀ u∈us,cW A s u v (f u))/\us.any f=b)/\Q (.bl (if neg then !b else b)) H
theorem dXs {K:Fg} (hu:X.A.units + 10 < cx) (hK:X.K=K:=by rfl):OpR X (dl .In) (rInA K false):=by
 intro pins s σ H x y v u Q I z ry h;obtain⟨p,xs,b,rfl,j,hf,q⟩:=h;cases ry;rw[<- hK] at j;rcases j with j | j
 ·obtain⟨its,r,pl,B⟩:=I.list j;obtain⟨f,f1,f2⟩:=hf I hK z r X.A.in1 (show X.A.units + 1 + 9 < cx by lia)
  refine SeqAt.in_listAt f pl.isList (λw hw=>f1 w (by simpa using hw)) ⟨.bl _,H,I,rfl,?_⟩
  rw[show its.toArray.any f=its.any f by simp,f2]
  exact q
 ·obtain⟨its,r,pl,B⟩:=I.tuple j;obtain⟨f,f1,f2⟩:=hf I hK z r X.A.in1 (show X.A.units + 1 + 9 < cx by lia)
  refine SeqAt.in_tupleAt f pl (λw hw=>f1 w (by simpa using hw)) ⟨.bl _,H,I,rfl,?_⟩
  rw[show its.toArray.any f=its.any f by simp,f2]
  exact q
theorem eQi {K:Fg} (hu:X.A.units + 10 < cx) (hK:X.K=K:=by rfl):OpR X (dl .NotIn) (rInA K true):=by
 intro pins s σ H x y v u Q I z ry h;obtain⟨p,xs,b,rfl,j,hf,q⟩:=h;cases ry;rw[<- hK] at j;rcases j with j | j
 ·obtain⟨its,r,pl,B⟩:=I.list j;obtain⟨f,f1,f2⟩:=hf I hK z r X.A.in1 (show X.A.units + 1 + 9 < cx by lia)
  refine SeqAt.notIn_listAt f pl.isList (λw hw=>f1 w (by simpa using hw)) ⟨.bl _,H,I,rfl,?_⟩
  rw[show its.toArray.any f=its.any f by simp,f2]
  exact q
 ·obtain⟨its,r,pl,B⟩:=I.tuple j;obtain⟨f,f1,f2⟩:=hf I hK z r X.A.in1 (show X.A.units + 1 + 9 < cx by lia)
  refine SeqAt.notIn_tupleAt f pl (λw hw=>f1 w (by simpa using hw)) ⟨.bl _,H,I,rfl,?_⟩
  rw[show its.toArray.any f=its.any f by simp,f2]
  exact q
def inD (neg:Bool):R2D:=λd e S Q=>∃ xs,sqIs S e xs/\aZ6 xs=true/\(xs.all λy=>okE 8 y d)=true/\Q (.bl (if neg then !decide (d∈xs) else decide (d∈xs))) S
theorem eJu (I:Inv X pins σ H s) {d:D} {x:V} {v:ad} (rx:RelV x v) (hd:RepV X.K M H d x) {A:aY} (hA:A.units + 9 < cx):∀ {xs:List V} {us:List ad} {ds:List D},RepL X.K M H ds xs->Vals xs us->aZ6 ds=true->(ds.all λy=>okE 8 y d)=true ->
  ∃ f:ad->Bool,(∀ u∈us,cW A s u v (f u))/\us.any f=decide (d∈ds):=by
 classical
 intro xs us ds l r p o;have key:∀ {y:V} {u:ad} {e:D},e∈ds->RepV X.K M H e y->RelV y u->decide (∃ y e,e∈ds/\RepV X.K M H e y/\RelV y u/\e=d)=decide (e=d):=by
  intro y u e hm he j
  congr 1
  refine propext ⟨λ⟨Y,U,G,h1,h2,O⟩=>?_,λh=>⟨y,e,hm,he,j,h⟩⟩
  have:=h2.inj j
  subst this;rw[<- O];exact cQl I (aXt p e hm) (aXt p U G) he h1
 refine⟨λu=>decide (∃ y e,e∈ds/\RepV X.K M H e y/\RelV y u/\e=d),?_,?_⟩
 ·intro u N;obtain⟨i,hi,rfl⟩:=bB N;have h1:=r.length;have h2:=l.length;obtain⟨e,R,re⟩:=l.get' (af (show i < xs.length by lia))
  obtain⟨Z,eu,j⟩:=r.get (af (show i < xs.length by lia))
  rw[af hi] at eu;cases eu;have hm:e∈ds:=ak R;show cW A s us[i] v (decide (∃ y e,e∈ds/\RepV X.K M H e y/\RelV y us[i]/\e=d));rw[key hm re j];exact(eq3 I 8 (by lia) re hd j rx (br.mp o e hm)).eq
 ·have gen:∀ {zs:List V} {ws:List ad} {es:List D},RepL X.K M H es zs->Vals zs ws->(∀ e∈es,e∈ds)->ws.any (λu=>decide (∃ y e,e∈ds/\RepV X.K M H e y/\RelV y u/\e=d))=decide (d∈es):=by
   intro zs ws es
   induction es generalizing zs ws with
   | nil =>
    intro l r _;unfold RepL at l;subst l;cases r;simp
   | cons e es L =>
    intro l r hm;unfold RepL at l;obtain⟨z,zs,rfl,B,J⟩:=l;cases r with
    | cons q t =>
     rw[List.any_cons,key (hm e ao) B q,L J t λe he=>hm e (aq _ he)]
     by_cases h:e=d
     ·simp[h]
     ·have h':¬ d=e:=λz=>h z.symm;simp[h,h']
  exact gen l r λ_ h=>h
theorem eQj {K:Fg} {neg:Bool}:OpD K (rInA K neg) (inD neg):=by
 intro F S H d e x y Q QD r hd he ⟨ds,B,p,o,q⟩ c;obtain⟨a,xs,rfl,sq,l⟩:=B.sq r he;refine⟨a,xs,decide (d∈ds),rfl,sq,λ{X pins σ s} I D {v us} j z A G=>?_,c.bl r q⟩;subst D;exact eJu I j hd G l z p o
variable {K:Fg} {a b:Expr} {ta tb:ED} {pos:Pos} {k:Nat}
theorem lt10 {n:Nat} {A:aY} (r:Room k A) (h:n<=64:=by decide):A.units + n < cx:=by have:=r.units;lia
theorem e_eq (hr:Room k X.A) (ha:PD K X a ta) (hb:PD K X b tb) (hK:X.K=K:=by rfl):PD K X (.Compare a [.Eq] [b] pos) (dOp (eqD false) ta tb):=eJm (dXr (lt10 hr) hK) eQh ha hb (nomark _)
theorem eJv (hr:Room k X.A) (ha:PD K X a ta) (hb:PD K X b tb) (hK:X.K=K:=by rfl):PTD K X (.Compare a [.Eq] [b] pos) (bQg (dOp (eqD false) ta tb)):=bQ0 (dXr (lt10 hr) hK) eQh ha hb (nomark _)
theorem eQk (hr:Room k X.A) (ha:PD K X a ta) (hb:PD K X b tb) (hK:X.K=K:=by rfl):PTD K X (.Compare a [.NotEq] [b] pos) (bQg (dOp (eqD true) ta tb)):=bQ0 (eJt (lt10 hr) hK) eQh ha hb (nomark _)
theorem e_in (hr:Room k X.A) (ha:PD K X a ta) (hb:PD K X b tb) (hm:dU .In b=false:=by rfl) (hK:X.K=K:=by rfl):PD K X (.Compare a [.In] [b] pos) (dOp (inD false) ta tb):=eJm (dXs (lt10 hr) hK) eQj ha hb hm
theorem eJw (hr:Room k X.A) (ha:PD K X a ta) (hb:PD K X b tb) (hm:dU .In b=false:=by rfl) (hK:X.K=K:=by rfl):PTD K X (.Compare a [.In] [b] pos) (bQg (dOp (inD false) ta tb)):=bQ0 (dXs (lt10 hr) hK) eQj ha hb hm
theorem dXt (hr:Room k X.A) (ha:PD K X a ta) (hb:PD K X b tb) (hm:dU .NotIn b=false:=by rfl) (hK:X.K=K:=by rfl):PTD K X (.Compare a [.NotIn] [b] pos) (bQg (dOp (inD true) ta tb)):=bQ0 (eQi (lt10 hr) hK) eQj ha hb hm
end
end L2
namespace HT
open PySem PySem.Spec PyProof.Rows
section
variable {prog:aC} {w:aO} {A:aY} {E:ad->ai->Prop} {s:ai}
theorem tup_slice {t sl : Addr} {items : Array ad} {Q : ad -> ai -> Prop} (ht : IsTup s.heap t items) (hTs : s.TypeIs (.ref sl) "slice")
    (h : ∀ A, aD (aF prog w) A (e9 (.ref sl) (pure (items.size : Int))) (λr s' => s' = s /\
      ((r.1 = 0 /\ r.2.1 = 1 /\ r.2.2 = items.size /\ Q (.ref t) s) \/
       (¬ (r.1 == 0 && r.2.1 == 1 && r.2.2 == items.size) = true /\ sizeOk (.seq ((aT r.2.2).filterMap λ(k : Nat) => items[(r.1 + (k : Int) * r.2.1).toNat]?).toArray) /\ Q (.ref s.heap.objs.size) { s with heap := s.heap.push { cls := .type "tuple", data := .seq ((aT r.2.2).filterMap λ(k : Nat) => items[(r.1 + (k : Int) * r.2.1).toNat]?).toArray } }))) E s) :
    aD (aF prog w) A (gA (.ref t) (.ref sl)) Q E s := by
  unfold gA
  try with_reducible refine bh ?_
  first | refine aa (ae ?_) | skip
  refine aa (wpAny_sequenceKey ht.typeIs (by decide) ?_)
  refine aa (cX (name := a7 "__getitem__") ht.typeIs b9
    (cK b9 ht.typeIs entry_tuple_getitem ?_ (args_tuple_getitem _ _)))
  show aD _ _ (gZ (.ref t) >>= _) _ _ s;refine aa (tupleItemsOf_ ht (aa (eQ hTs ?_)));rw [if_pos (by decide)]
  refine aa (c6 (h _) (λr s' ⟨e, q⟩ => ?_) λ_ _ x => x);subst e;obtain⟨lo, st, n⟩ := r;show aD _ _ (if (lo == 0 && st == 1 && n == items.size) = true then _ else _) _ _ _
  rcases q with⟨h1, h2, B, q⟩ | ⟨z, j, q⟩
  · have e1 : lo = 0 := h1
    have e2 : st = 1 := h2;have D : n = items.size := B;rw [if_pos (by rw [e1, e2, D]; simp)]
    unfold cg.Tuple.tupleIsExact;refine aa (aa (eQ ht.typeIs (ae ?_)));rw [if_pos (by decide)]
    refine aa (c7 ?_)
    first
      | exact ae ⟨_, rfl, ae q⟩
      | exact aa (ae ⟨_, rfl, ae q⟩)
      | exact aa (ae (ae ⟨_, rfl, ae q⟩))
  · rw [if_neg z]
    first
      | exact aa (m := b7 _) (bA (ae ⟨_, rfl, ae q⟩) j)
      | exact aa (m := b7 _) (bA (aa (ae (ae ⟨_, rfl, ae q⟩))) j)
      | exact aa (aa (m := b7 _) (bA (ae (ae ⟨_, rfl, ae q⟩)) j))
      | exact aa (aa (m := b7 _) (bA (ae ⟨_, rfl, ae q⟩) j))
end
end HT
namespace L2
open PySem PySem.Spec PyProof.Rows
section
variable {X:Cx} {K:Fg}
def rSlW (K:Fg):V->Option Int->Option Int->Hp->VK->Prop:=λx lo hi H Q=>∃ a xs,x=.ref a/\SqT K H a xs/\HT.sIx xs.length 0 lo=0/\HT.sIx xs.length xs.length hi=xs.length/\Q (.ref a) H
theorem eQl (hK:X.K=K:=by rfl):SlR X (rSlW K):=by
 subst hK;intro pins s σ H x v N L lo hi sl Q I rx D pl pu h;obtain⟨a,xs,rfl,G,h0,hn,q⟩:=h;cases rx;obtain⟨its,r,B,O⟩:=I.tuple G;have hlen:its.toArray.size=xs.length:=by rw[am];exact r.length.symm
 obtain⟨os,j,z,J⟩:=id D;refine⟨"tuple",_,b9.lookup,B.typeIs,HT.tup_slice B ⟨os,j,z⟩ λA=>HT.sliceApplied_gen D pl pu ⟨rfl,.inl ⟨?_,rfl,?_,.ref a,H,I,rfl,q⟩⟩⟩
 ·show((HT.sIx its.toArray.size 0 lo:Nat):Int)=0;rw[hlen,h0];rfl
 ·show HT.sIx its.toArray.size its.toArray.size hi - HT.sIx its.toArray.size 0 lo=its.toArray.size;rw[hlen,h0,hn];rfl
end
end L2
set_option maxHeartbeats 1000000
namespace L2
open PySem PySem.Spec PyProof.Rows
section
variable {X:Cx} {K:Fg} {a b:Expr} {ta tb:ED} {pos:Pos} {k:Nat}
def ltD:R2D:=λd e S Q=>match d,e with
 | .int i,.int j=>Q (.bl (decide (i < j))) S
 | .str x,.str y=>Q (.bl (HT.ltS x y)) S
 | .tup xs,.tup ys=>∃ as bs,xs=as.map D.str/\ys=bs.map D.str/\Q (.bl (HT.lexS as bs)) S
 | _,_=>False
def rLtA (K:Fg):R2:=λx y H Q=>rI0 (λi j=>.bl (decide (i < j))) x y H Q\/(∃ i j,x=.str i/\y=.str j/\Q (.bl (decide (i.cps.toList < j.cps.toList))) H)\/rLtS K x y H Q
theorem eJx (hu:X.A.units < cx) (hK:X.K=K:=by rfl):OpR X (dl .Lt) (rLtA K):=op_lt.or (op_lt_str.or (eQ1 hu hK))
theorem bJj {M:Am} {H:Hp}:∀ {as:List Str} {xs:List V},RepL K M H (as.map D.str) xs->bb (dS H) xs as
 | [],xs,h=>by rw[dP] at h;unfold RepL at h;subst h;exact .nil
 | a::as,xs,h=>by
  rw[bi] at h;unfold RepL at h;obtain⟨v,j,rfl,r,l⟩:=h;unfold RepV at r;exact .cons r (bJj l)
theorem cJ7 {M:Am} {H:Hp}:∀ {as:List Str} {xs:List V},bb (dS H) xs as->RepL K M H (as.map D.str) xs
 | _,_,.nil=>RepL.nil
 | _,_,.cons r l=>RepL.cons (by unfold RepV;exact r) (cJ7 l)
theorem bJk {S:Sto} {F:Am} {H:Hp} {as:List Str} {v:V} (h:RepV K (mt S F) H (.tup (as.map D.str)) v):dT K dS H v as:=by
 obtain⟨a,xs,rfl,t,l⟩:=tup.st h;exact⟨a,xs,rfl,t,bJj l⟩
theorem fX3:OpD K (rLtA K) ltD:=by
 intro F S H d e x y Q QD r hd he h c;cases d with
 | int i =>
  cases e with
  | int j=>rw[rint hd,rint he];exact .inl ⟨i,j,rfl,rfl,c.bl r h⟩
  | _=>exact h.elim
 | str i =>
  cases e with
  | str j=>rw[rstr hd,rstr he];exact .inr (.inl ⟨i,j,rfl,rfl,c.bl r h⟩)
  | _=>exact h.elim
 | tup xs =>
  cases e with
  | tup ys =>
   obtain⟨as,bs,rfl,rfl,q⟩:=h;exact .inr (.inr ⟨as,bs,bJk hd,bJk he,c.bl r q⟩)
  | _=>exact h.elim
 | _=>exact h.elim
theorem eQm (hr:Room k X.A) (ha:PD K X a ta) (hb:PD K X b tb) (hK:X.K=K:=by rfl):PTD K X (.Compare a [.Lt] [b] pos) (bQg (dOp ltD ta tb)):=bQ0 (eJx hr.units0 hK) fX3 ha hb (nomark _)
abbrev gtD:R2D:=iiD0 λi j=>.bl (decide (j < i))
abbrev geD:R2D:=iiD0 λi j=>.bl (decide (j<=i))
theorem eJy (hr:Room k X.A) (ha:PD K X a ta) (hb:PD K X b tb):PTD K X (.Compare a [.Gt] [b] pos) (bQg (dOp gtD ta tb)):=bQ0 fZq eJr ha hb (nomark _)
theorem fX4 (hr:Room k X.A) (ha:PD K X a ta) (hb:PD K X b tb):PTD K X (.Compare a [.GtE] [b] pos) (bQg (dOp geD ta tb)):=bQ0 fZr eJr ha hb (nomark _)
structure PWD (K:Fg) (X:Cx) (e:Expr) (t:TD):Prop where
 o:PW X e (upT K t)
def dAnd (t u:TD):TD:=fun Γ S Q=>t Γ S λc S1=>if c=true then u Γ S1 Q else Q false S1
def dOr (t u:TD):TD:=fun Γ S Q=>t Γ S λc S1=>if c=true then Q true S1 else u Γ S1 Q
def dNot (t:TD):TD:=fun Γ S Q=>t Γ S λc S1=>Q (!c) S1
section
variable {tA tB':TD} {rest:List Expr}
theorem PWD.pt {e:Expr} {t:TD} (h:PWD K X e t):PTD K X e t:=⟨PW.pt h.o⟩
theorem PWD.of {e:Expr} {te:TT} {t:TD} (h:PW X e te) (i:∀ σ H Q,upT K t σ H Q->te σ H Q):PWD K X e t:=⟨λj pins s σ H Q I q=>h j pins s σ H Q I (i σ H Q q)⟩
theorem eQn (ha:PTD K X a tA):PWD K X (.BoolOp .And [a] pos) tA:=⟨dJ4 ha.o⟩
theorem cQm (ha:PTD K X a tA):PWD K X (.BoolOp .Or [a] pos) tA:=⟨eX6 ha.o⟩
theorem eJz (ha:PTD K X a tA) (hb:PWD K X (.BoolOp .And (b::rest) pos) tB'):PWD K X (.BoolOp .And (a::b::rest) pos) (dAnd tA tB'):=.of (eX7 ha.o hb.o) fun σ H Q G=>G.el λF S Γ QD r g q c =>
 ⟨F,S,Γ,_,r,g,q,λz H1 N j B D=>by
  cases z with
  | true=>exact⟨F,N,Γ,QD,B,g.ext j,D,λz O L J=>c z O L (j.trans J)⟩
  | false=>exact c _ _ _ j B D⟩
theorem cJ8 (ha:PTD K X a tA) (hb:PWD K X (.BoolOp .Or (b::rest) pos) tB'):PWD K X (.BoolOp .Or (a::b::rest) pos) (dOr tA tB'):=.of (fZk ha.o hb.o) fun σ H Q G=>G.el λF S Γ QD r g q c =>
 ⟨F,S,Γ,_,r,g,q,λz H1 N j B D=>by
  cases z with
  | false=>exact⟨F,N,Γ,QD,B,g.ext j,D,λz O L J=>c z O L (j.trans J)⟩
  | true=>exact c _ _ _ j B D⟩
theorem aJ6 (ha:PTD K X a tA):PTD K X (.UnaryOp .Not a pos) (dNot tA):=.of (eX8 ha.o) fun σ H Q j=>j.el λF S Γ QD r g q c=>⟨F,S,Γ,_,r,g,q,λz H1 J B D G=>c _ _ _ B D G⟩
end
def truD (S:Sto) (d:D) (k:Bool->Prop):Prop:=match d with
 | .non=>k false
 | .bl b=>k b
 | .int i=>k (i != 0)
 | .str x=>x.length<=sizeLine/\k ((x.length:Int) != 0)
 | .tup xs=>k (!xs.isEmpty)
 | .lst xs=>k (!xs.isEmpty)
 | .ref a=>∃ xs,S a=some (.lst xs)/\k (!xs.isEmpty)
 | .ty _=>False
def dTru (ta:ED):TD:=fun Γ S Q=>ta Γ S λd S1=>truD S1 d λb=>Q b S1
theorem cJ9 {M:Am} {H:Hp} {ds:List D} {xs:List V} (l:RepL K M H ds xs):(!xs.isEmpty)=!ds.isEmpty:=by
 have:=l.length
 cases ds <;> cases xs <;> first | rfl | simp at this
theorem aXk (ha:PD K X a ta) (he:∀ whole,isTrue a X.env whole=(do let v <- whole;gO a.pos;fG [v] (truthy v)):=by intro _;rfl) (hK:X.K=K:=by rfl):PTD K X a (dTru ta):=.of (cXv (K:=K) ha.o he hK) fun σ H Q G=>G.el λF S Γ QD r g q c =>
 ⟨F,S,Γ,_,r,g,q,λv d H1 D B z v1 j=>by
  cases d with
  | non=>rw[rnon v1];exact⟨false,rfl,c _ _ _ B z j⟩
  | bl b=>rw[rbl v1];exact⟨b,rfl,c _ _ _ B z j⟩
  | int b=>rw[rint v1];exact⟨_,rfl,c _ _ _ B z j⟩
  | str b=>rw[rstr v1];exact⟨_,⟨j.1,rfl⟩,c _ _ _ B z j.2⟩
  | ty b=>exact j.elim
  | tup xs =>
   obtain⟨p,us,rfl,t,l⟩:=tup.st v1;exact⟨_,.inr (.inl ⟨us,t,rfl⟩),c _ _ _ B z (by rw[cJ9 l];exact j)⟩
  | lst xs =>
   obtain⟨p,us,rfl,t,l⟩:=lsIs.sl z v1 (show lsIs D (.lst xs) xs from rfl)
   exact⟨_,.inl ⟨us,t,rfl⟩,c _ _ _ B z (by rw[cJ9 l];exact j)⟩
  | ref p =>
   obtain⟨xs,e,j⟩:=j;obtain⟨p,us,rfl,t,l⟩:=lsIs.sl z v1 (show lsIs D (.ref p) xs from e)
   exact⟨_,.inl ⟨us,t,rfl⟩,c _ _ _ B z (by rw[cJ9 l];exact j)⟩⟩
section
variable {e:Expr} {t:AD} {p:Pos}
def lenD:RCD:=λds S Q=>match ds with
 | [.str x]=>x.length<=sizeLine/\Q (.int x.length) S
 | [d]=>∃ xs,sqIs S d xs/\Q (.int xs.length) S
 | _=>False
theorem cJa (hK:X.K=K:=by rfl):CallR X (.builtin "len") (λxs H Q=>∃ x n,xs=[x]/\LenV K x H n/\Q (.int n) H):=hK ▸ dQm
theorem fQ0:bZi K (λxs H Q=>∃ x n,xs=[x]/\LenV K x H n/\Q (.int n) H) lenD:=by
 intro F S H ds z Q QD r l h c
 match ds,h with
 | [d],h =>
  obtain⟨v,rfl,j⟩:=l.one;have seq:(∃ xs,sqIs S d xs/\QD (.int xs.length) S)->∃ x n,[v]=[x]/\LenV K x H n/\Q (.int n) H:=by
   rintro⟨xs,h1,q⟩;obtain⟨a,us,rfl,sq,l⟩:=h1.sq r j;refine⟨_,xs.length,rfl,?_,c.int r q⟩;rcases sq with sq | sq
   ·exact .inl ⟨us,sq,l.length.symm⟩
   ·exact .inr ⟨us,sq,l.length.symm⟩
  cases d with
  | str x=>rw[rstr j];exact⟨_,x.length,rfl,⟨h.1,rfl⟩,c.int r h.2⟩
  | _=>exact seq h
 | [],h=>exact h.elim
 | d::_::_,h=>cases d <;> exact h.elim
theorem bXh (hg:Gl X "len") (hm:X.mg "len" = none) (ha:PAD K X [e] t) (hK:X.K=K:=by rfl) (he:ay [e] X.env=(false,eval e X.env)::ay [] X.env:=by rfl) (hpl:(cD pos (ay [] X.env)).any (·.1)=false:=by rfl):PD K X (.Call (.Name "len" p) [e] [] pos) (dCB lenD t):=aXs (cJa hK) fQ0 hg hm eXu ha (by decide) (by decide) he hpl
def tupD:RCD:=λds S Q=>match ds with
 | [d]=>∃ xs,sqIs S d xs/\Q (.tup xs) S
 | _=>False
theorem fQ1:bZi K (λxs H Q=>∃ p ys,xs=[.ref p]/\((SqL K H p ys/\∀ l,H l=none->Q (.ref l) (upd H l (.tup ys)))\/(SqT K H p ys/\Q (.ref p) H))) tupD:=by
 intro F S H ds B Q QD r l h c
 match ds,h with
 | [d],⟨xs,h1,q⟩ =>
  obtain⟨v,rfl,j⟩:=l.one;cases d with
  | tup ys =>
   cases h1;obtain⟨a,us,rfl,sq,l⟩:=tup.st j;exact⟨a,us,rfl,.inr ⟨sq,c.here r j q⟩⟩
  | lst ys =>
   obtain⟨a,us,rfl,sq,l⟩:=lsIs.sl r j (show lsIs S (.lst ys) xs from h1)
   exact⟨a,us,rfl,.inl ⟨sq,λp z=>c.tup r z l q⟩⟩
  | ref y =>
   obtain⟨a,us,rfl,sq,l⟩:=lsIs.sl r j (show lsIs S (.ref y) xs from h1)
   exact⟨a,us,rfl,.inl ⟨sq,λp z=>c.tup r z l q⟩⟩
  | _=>exact h1.elim
theorem aQr (hg:Gl X "tuple") (hm:X.mg "tuple" = none) (ha:PAD K X [e] t) (hK:X.K=K:=by rfl) (he:ay [e] X.env=(false,eval e X.env)::ay [] X.env:=by rfl) (hpl:(cD pos (ay [] X.env)).any (·.1)=false:=by rfl):PD K X (.Call (.Name "tuple" p) [e] [] pos) (dCB tupD t):=aJg (bJd hK) fQ1 hg hm dQs ha (by decide) (by decide) he hpl
def lstD (b:Bool):RCD:=λds S Q=>match ds with
 | [d]=>∃ xs,sqIs S d xs/\newL b xs S Q
 | _=>False
theorem fQ2 {b:Bool}:bZi K (λxs H Q=>∃ p ys,xs=[.ref p]/\(SqL K H p ys\/SqT K H p ys)/\∀ l,H l=none->Q (.ref l) (upd H l (.lst ys))) (lstD b):=by
 intro F S H ds B Q QD r l h c
 match ds,h with
 | [d],⟨xs,h1,q⟩ =>
  obtain⟨v,rfl,j⟩:=l.one;obtain⟨a,us,rfl,sq,l⟩:=h1.sq r j;exact⟨a,us,rfl,sq,λp z=>c.new r z l q⟩
theorem dXu {b:Bool} (hg:Gl X "list") (hm:X.mg "list" = none) (ha:PAD K X [e] t) (hK:X.K=K:=by rfl) (he:ay [e] X.env=(false,eval e X.env)::ay [] X.env:=by rfl) (hpl:(cD pos (ay [] X.env)).any (·.1)=false:=by rfl):PD K X (.Call (.Name "list" p) [e] [] pos) (dCB (lstD b) t):=aJg (cZk hK) fQ2 hg hm cXa ha (by decide) (by decide) he hpl
def i2D (g:Int->Int->Int):RCD:=λds S Q=>match ds with
 | [.int i,.int j]=>Q (.int (g i j)) S
 | _=>False
theorem fX5 {g:Int->Int->Int}:bZi K (λxs H Q=>∃ i j,xs=[.int i,.int j]/\Q (.int (g i j)) H) (i2D g):=by
 intro F S H ds B Q QD r l h c
 match ds,h with
 | [.int i,.int j],h =>
  obtain⟨v,w,rfl,z,q⟩:=l.two;rw[rint z,rint q];exact⟨i,j,rfl,c.int r h⟩
theorem fX6 {e2:Expr} (hg:Gl X "min") (hm:X.mg "min" = none) (ha:PAD K X [e,e2] t) (hc:X.calm=true:=by rfl) (he:ay [e,e2] X.env=(false,eval e X.env)::ay [e2] X.env:=by rfl) (hpl:(cD pos (ay [e2] X.env)).any (·.1)=false:=by rfl):PD K X (.Call (.Name "min" p) [e,e2] [] pos) (dCB (i2D λi j=>if j < i then j else i) t):=aXs (cX1 hc) fX5 hg hm eXv ha (by decide) (by decide) he hpl
theorem cQn {M:Am} {H:Hp}:∀ {bs:List Bool} {xs:List V},RepL K M H (bs.map D.bl) xs->bb (dB H) xs bs
 | [],xs,h=>by rw[dP] at h;unfold RepL at h;subst h;exact .nil
 | a::as,xs,h=>by
  rw[bi] at h;unfold RepL at h;obtain⟨v,j,rfl,r,l⟩:=h;unfold RepV at r;exact .cons r (cQn l)
def quD (g:List Bool->Bool):RCD:=λds S Q=>match ds with
 | [d]=>∃ bs,lsIs S d (bs.map D.bl)/\Q (.bl (g bs)) S
 | _=>False
theorem fQ3 {g:List Bool->Bool}:bZi K (λxs H Q=>∃ x bs,xs=[x]/\dL K dB H x bs/\Q (.bl (g bs)) H) (quD g):=by
 intro F S H ds z Q QD r l h c
 match ds,h with
 | [d],⟨bs,h1,q⟩ =>
  obtain⟨v,rfl,j⟩:=l.one;obtain⟨a,us,rfl,sq,l⟩:=lsIs.sl r j h1;exact⟨_,bs,rfl,⟨a,us,rfl,sq,cQn l⟩,c.bl r q⟩
theorem dZb (hg:Gl X "all") (hm:X.mg "all" = none) (ha:PAD K X [e] t) (hK:X.K=K:=by rfl) (hc:X.calm=true:=by rfl) (he:ay [e] X.env=(false,eval e X.env)::ay [] X.env:=by rfl) (hpl:(cD pos (ay [] X.env)).any (·.1)=false:=by rfl):PD K X (.Call (.Name "all" p) [e] [] pos) (dCB (quD λbs=>bs.all id) t):=aXs (cXt hK hc) fQ3 hg hm eXw ha (by decide) (by decide) he hpl
theorem fQ4 (hg:Gl X "any") (hm:X.mg "any" = none) (ha:PAD K X [e] t) (hK:X.K=K:=by rfl) (hc:X.calm=true:=by rfl) (he:ay [e] X.env=(false,eval e X.env)::ay [] X.env:=by rfl) (hpl:(cD pos (ay [] X.env)).any (·.1)=false:=by rfl):PD K X (.Call (.Name "any" p) [e] [] pos) (dCB (quD λbs=>bs.any id) t):=aXs (cXu hK hc) fQ3 hg hm eXx ha (by decide) (by decide) he hpl
end
def ixD:R2D:=λd e S Q=>match d,e with
 | .str z,.int i=>z.length<=sizeLine/\∃ c,atI z.cps.toList i=some c/\Q (.str ⟨#[c]⟩) S
 | d,.int i=>∃ xs v,sqIs S d xs/\atI xs i=some v/\Q v S
 | _,_=>False
theorem fX7 {M:Am} {H:Hp} {ds:List D} {xs:List V} (l:RepL K M H ds xs) {i:Int} {d:D} (h:atI ds i=some d):∃ v,atI xs i=some v/\RepV K M H d v:=by
 unfold atI at h ⊢;rw[l.length];cases hi:ixN ds.length i with
 | none=>rw[hi] at h;cases h
 | some j=>rw[hi] at h;exact l.get h
theorem fX8:OpD K (rIx K) ixD:=by
 intro F S H d e x y Q QD r hd he h c;have seq:∀ i,e=.int i->(∃ xs v,sqIs S d xs/\atI xs i=some v/\QD v S)->rIx K x y H Q:=by
  rintro i rfl ⟨xs,v,h1,h2,q⟩;obtain⟨a,us,rfl,sq,l⟩:=h1.sq r hd;obtain⟨u,e1,j⟩:=fX7 l h2;rw[rint he];rcases sq with sq | sq
  ·exact .inl ⟨a,us,i,u,rfl,rfl,sq,e1,c.here r j q⟩
  ·exact .inr (.inl ⟨a,us,i,u,rfl,rfl,sq,e1,c.here r j q⟩)
 cases e with
 | int i =>
  cases d with
  | str z =>
   obtain⟨h1,w,h2,q⟩:=h;rw[rstr hd,rint he];exact .inr (.inr ⟨z,i,w,rfl,rfl,h1,h2,c.str r q⟩)
  | _=>exact seq i rfl h
 | _=>cases d <;> exact h.elim
theorem eQo (hK:X.K=K:=by rfl):IxR X (rIx K):=hK ▸ eXr
theorem e_ix (ha:PD K X a ta) (hb:PD K X b tb) (hs:PlainIx b:=by exact λ_ _=>rfl) (hK:X.K=K:=by rfl):PD K X (.Subscript a b pos) (dOp ixD ta tb):=.of (pe_ix (eQo hK) ha.o hb.o hs) (dZ9 fX8)
abbrev OD:=Gm->Sto->(Option Int->Sto->Prop)->Prop
def upO (K:Fg) (t:OD):TO:=fun σ H Q=>∃ F S Γ QD,Rp K F S H/\RepG K (mt S F) H Γ σ/\t Γ S QD/\∀ o H' S',Ext S H S' H'->Rp K F S' H'->QD o S'->Q o H'
theorem upO.el {K:Fg} {t:OD} {σ:St} {H:Hp} {Q:Option Int->Hp->Prop} {p:Prop} (h:upO K t σ H Q) (k:∀ F S Γ QD,Rp K F S H->RepG K (mt S F) H Γ σ->t Γ S QD->(∀ o H' S',Ext S H S' H'->Rp K F S' H'->QD o S'->Q o H')->p):p:=by
 obtain⟨F,S,Γ,QD,h0,h1,h2,j⟩:=h;exact k F S Γ QD h0 h1 h2 j
structure POD (K:Fg) (X:Cx) (e:Option Expr) (t:OD):Prop where
 o:PO X e (upO K t)
def eQp:OD:=λ_ S Q=>Q none S
def fX9 (t:ED):OD:=fun Γ S Q=>t Γ S λd S1=>∃ i,d=.int i/\Q (some i) S1
theorem bJl:POD K X none eQp:=⟨λpins s σ H Q I j=>j.el λF S Γ QD r g q c=>dJe pins s σ H Q I (c none H S (Ext.refl _ _) r q)⟩
theorem bQ2 (h:PD K X a ta):POD K X (some a) (fX9 ta):=⟨λpins s σ H Q I z=>z.el λF S Γ QD r g q c=>dJf h.o pins s σ H Q I ⟨F,S,Γ,_,r,g,q,λv d H1 J B D v1 j=>by
 obtain⟨i,e,G⟩:=j;subst e;exact⟨i,rint v1,c _ _ _ B D G⟩⟩⟩
def cutD (xs:List D) (lo hi:Option Int):List D:=(xs.drop (HT.sIx xs.length 0 lo)).take (HT.sIx xs.length xs.length hi - HT.sIx xs.length 0 lo)
def slD (b:Bool) (d:D) (lo hi:Option Int) (S:Sto) (Q:DK):Prop:=match d with
 | .str z=>z.length<=1000000/\Q (.str (cutS z lo hi)) S
 | .tup xs=>Q (.tup (cutD xs lo hi)) S
 | d=>∃ xs,lsIs S d xs/\newL b (cutD xs lo hi) S Q
def rSlA (K:Fg):V->Option Int->Option Int->Hp->VK->Prop:=λx lo hi H Q=>rSlS x lo hi H Q\/rSlT K x lo hi H Q\/rSlW K x lo hi H Q\/rSlL K x lo hi H Q
theorem sl_A (hK:X.K=K:=by rfl):SlR X (rSlA K):=sl_str.or ((eQ0 hK).or ((eQl hK).or (dZ3 hK)))
theorem dZc (xs:List D) {lo hi:Option Int} (h0:HT.sIx xs.length 0 lo=0) (h1:HT.sIx xs.length xs.length hi=xs.length):cutD xs lo hi=xs:=by unfold cutD;rw[h0,h1];simp
theorem dXv {M:Am} {H:Hp} {ds:List D} {xs:List V} (l:RepL K M H ds xs) (lo hi:Option Int):RepL K M H (cutD ds lo hi) (cutV xs lo hi):=by
 unfold cutD cutV;rw[l.length];exact(l.drop _).take _
theorem sd_A {b:Bool}:∀ F S H d x lo hi Q QD,Rp K F S H->RepV K (mt S F) H d x->slD b d lo hi S QD->Cn K F S H QD Q->rSlA K x lo hi H Q:=by
 intro F S H d x lo hi Q QD r hd h c;have lists:(∃ xs,lsIs S d xs/\newL b (cutD xs lo hi) S QD)->rSlA K x lo hi H Q:=by
  rintro⟨xs,D,q⟩;obtain⟨a,us,rfl,s1,j⟩:=lsIs.sl r hd D;exact .inr (.inr (.inr ⟨a,us,rfl,s1,λp B=>c.new r B (dXv j lo hi) q⟩))
 cases d with
 | str z=>rw[rstr hd];exact .inl ⟨z,rfl,h.1,c.str r h.2⟩
 | tup xs =>
  obtain⟨a,us,rfl,s1,j⟩:=tup.st hd
  by_cases hw:HT.sIx us.length 0 lo=0/\HT.sIx us.length us.length hi=us.length
  ·refine .inr (.inr (.inl ⟨a,us,rfl,s1,hw.1,hw.2,c.here r hd ?_⟩));rw[j.length] at hw;have h':QD (.tup (cutD xs lo hi)) S:=h;rwa [dZc xs hw.1 hw.2] at h'
  ·exact .inr (.inl ⟨a,us,rfl,s1,hw,λp B=>c.tup r B (dXv j lo hi) h⟩)
 | _=>exact lists h
def dSl (b:Bool) (te:ED) (tl th:OD):ED:=fun Γ S Q=>te Γ S λd S1=>tl Γ S1 λlo S2=>th Γ S2 λhi S3=>slD b d lo hi S3 Q
theorem e_sl {b:Bool} {e:Expr} {te:ED} {lo hi:Option Expr} {tl th:OD} {p2 pos:Pos} (he:PD K X e te) (hl:POD K X lo tl) (hu:POD K X hi th) (hK:X.K=K:=by rfl):PD K X (.Subscript e (.Slice lo hi none p2) pos) (dSl b te tl th):=.of (dQo (sl_A hK) he.o hl.o hu.o) fun σ H Q D=>D.el λF S Γ QD r g q c =>
 ⟨F,S,Γ,_,r,g,q,λv d H1 Z z L v1 R=>⟨F,Z,Γ,_,L,g.ext z,R,λl H2 Y j J O=>⟨F,Y,Γ,_,J,g.ext (z.trans j),O,λu H3 U B G N=>sd_A F U H3 d v l u Q QD G (v1.ext (j.trans B)) N (Cn.shift c (z.trans (j.trans B)))⟩⟩⟩
end
end L2
set_option maxHeartbeats 4000000
namespace L2
open PySem PySem.Spec PyProof.Rows
section
variable {X:Cx} {K:Fg} {a b:Expr} {ta tb:ED} {pos:Pos} {k:Nat}
abbrev GD:=D->Gm->Sto->(Gm->Sto->Prop)->Prop
abbrev GsD:=List D->Gm->Sto->(Gm->Sto->Prop)->Prop
def upG (K:Fg) (t:GD):TG:=λv σ H Q=>∃ F S Γ d QD,Rp K F S H/\RepG K (mt S F) H Γ σ/\RepV K (mt S F) H d v/\t d Γ S QD/\∀ Γ' S' σ' H',Ext S H S' H'->Rp K F S' H'->RepG K (mt S' F) H' Γ' σ'->QD Γ' S'->Q σ' H'
theorem upG.el {K:Fg} {t:GD} {v:V} {σ:St} {H:Hp} {Q:St->Hp->Prop} {p:Prop} (h:upG K t v σ H Q) (k:∀ F S Γ d QD,Rp K F S H->RepG K (mt S F) H Γ σ->RepV K (mt S F) H d v->t d Γ S QD->(∀ Γ' S' σ' H',Ext S H S' H'->Rp K F S' H'->RepG K (mt S' F) H' Γ' σ'->QD Γ' S'->Q σ' H')->p):p:=by
 obtain⟨F,S,Γ,d,QD,h0,h1,h2,q,j⟩:=h;exact k F S Γ d QD h0 h1 h2 q j
def upGs (K:Fg) (t:GsD):TGs:=λvs σ H Q=>∃ F S Γ ds QD,Rp K F S H/\RepG K (mt S F) H Γ σ/\RepL K (mt S F) H ds vs/\t ds Γ S QD/\∀ Γ' S' σ' H',Ext S H S' H'->Rp K F S' H'->RepG K (mt S' F) H' Γ' σ'->QD Γ' S'->Q σ' H'
theorem upGs.el {K:Fg} {t:GsD} {vs:List V} {σ:St} {H:Hp} {Q:St->Hp->Prop} {p:Prop} (h:upGs K t vs σ H Q) (k:∀ F S Γ ds QD,Rp K F S H->RepG K (mt S F) H Γ σ->RepL K (mt S F) H ds vs->t ds Γ S QD->(∀ Γ' S' σ' H',Ext S H S' H'->Rp K F S' H'->RepG K (mt S' F) H' Γ' σ'->QD Γ' S'->Q σ' H')->p):p:=by
 obtain⟨F,S,Γ,ds,QD,h0,h1,h2,q,j⟩:=h;exact k F S Γ ds QD h0 h1 h2 q j
structure PGD (K:Fg) (X:Cx) (e:Expr) (t:GD):Prop where
 o:PG X e (upG K t)
structure PGsD (K:Fg) (X:Cx) (es:List Expr) (t:GsD):Prop where
 o:PGs X es (upGs K t)
theorem PGD.of {e:Expr} {te:TG} {t:GD} (h:PG X e te) (i:∀ v σ H Q,upG K t v σ H Q->te v σ H Q):PGD K X e t:=⟨λpins s σ H v u Q I r q=>h pins s σ H v u Q I r (i v σ H Q q)⟩
theorem PGsD.of {e:List Expr} {te:TGs} {t:GsD} (h:PGs X e te) (i:∀ v σ H Q,upGs K t v σ H Q->te v σ H Q):PGsD K X e t:=⟨λpins s σ H v u Q I r q=>h pins s σ H v u Q I r (i v σ H Q q)⟩
def aZj (i:Nat):GD:=λd Γ S Q=>Q (Γ.set i (some d)) S
theorem aXu {i:Nat} {x:Str} (hN:X.N.Nodup) (hi:X.N[i]?=some x) (hx:Loc X.env.scope x) (hf:X.fn x=true\/X.env.scope.names.lookup x=some .local:=by first | exact .inl rfl | exact .inr rfl | assumption):PGD K X (.Name x pos) (aZj i) :=
 .of (aQb hN hi hx hf) λv σ H Q j=>j.el λF S Γ d QD r g z q c=>c _ S _ H (Ext.refl _ _) r (g.set z i) q
def fQ5:GsD:=λds Γ S Q=>ds=[]/\Q Γ S
def cJb (t:GD) (u:GsD):GsD:=λds Γ S Q=>match ds with
 | []=>False
 | d::r=>t d Γ S fun Γ' S'=>u r Γ' S' Q
def fXa (n:Nat) (t:GsD):GD:=λd Γ S Q=>match d with
 | .tup ds=>ds.length=n/\t ds Γ S Q
 | _=>False
theorem eQq:PGsD K X [] fQ5:=.of bJ3 λv σ H Q j=>by
 obtain⟨F,S,Γ,ds,QD,r,g,l,⟨e,q⟩,c⟩:=j;subst e;unfold RepL at l;exact⟨l,c _ S _ H (Ext.refl _ _) r g q⟩
theorem cQo {e:Expr} {es:List Expr} {t:GD} {u:GsD} (h1:PGD K X e t) (h2:PGsD K X es u) (ha:(dy (e::es) X.env).map (·.2)=i5 e X.env::(dy es X.env).map (·.2):=by rfl):PGsD K X (e::es) (cJb t u) :=
 .of (aXg h1.o h2.o ha) λz σ H Q B=>B.el λF S Γ ds QD r g l q c=>by
  cases ds with
  | nil=>exact q.elim
  | cons d ds =>
   unfold RepL at l;obtain⟨v,z,rfl,G,l⟩:=l;exact⟨v,z,rfl,F,S,Γ,d,_,r,g,G,q,fun Γ1 O σ1 H1 j J g1 L=>⟨F,O,Γ1,ds,_,J,g1,l.ext j,L,fun Γ2 N σ2 H2 D=>c Γ2 N σ2 H2 (j.trans D)⟩⟩
def setD (o i v:D) (S:Sto) (Q:Sto->Prop):Prop:=match o,i with
 | .ref p,.int k=>∃ xs j,S p=some (.lst xs)/\ixN xs.length k=some j/\Q (supd S p (.lst (xs.set j v)))
 | _,_=>False
def gdSub (to ti:ED):GD:=λv Γ S Q=>to Γ S λo S1=>ti Γ S1 λi S2=>setD o i v S2 λS3=>Q Γ S3
theorem bQx {o i:Expr} {to ti:ED} (ho:PD K X o to) (hi:PD K X i ti)
  (ha:∀ v,i5 (.Subscript o i pos) X.env v=(do
   let ov <- fG [v] (eval o X.env)
   let iv <- fG [v,ov] (eval i X.env)
   gO pos
   fG [v,ov,iv] (setItem ov iv v)
   release [v,ov,iv] []):=by intro _;rfl):PGD K X (.Subscript o i pos) (gdSub to ti) :=
 .of (eXa ho.o hi.o dQp ha) λv σ H Q Y=>Y.el λF S Γ d QD r g Z q c =>
  ⟨F,S,Γ,_,r,g,q,λov od H1 S1 J r1 v1 q1=>⟨F,S1,Γ,_,r1,g.ext J,q1,λiv id H2 O G R v2 N=>by
   have L:=v1.ext G;cases od with
   | ref p =>
    cases id with
    | int kk =>
     obtain⟨xs,j,U,hj,q3⟩:=N;obtain⟨us,hH,l⟩:=R.obj p _ U;rw[rref L,rint v2];have B:O p≠none:=by rw[U];exact λz=>by cases z
     have D:Ext O H2 (supd O p (.lst (xs.set j d))) (upd H2 p (.lst (us.set j v))):=Ext.write B;refine⟨p,us,kk,j,rfl,rfl,hH,by rw[l.length];exact hj,?_⟩
     refine c Γ _ σ _ (J.trans (G.trans D)) (R.write B ⟨_,aQg,?_⟩) (g.ext (J.trans (G.trans D))) q3;exact RepL.set (Z.ext (J.trans (G.trans D))) j (l.ext D)
    | _=>exact N.elim
   | _=>exact N.elim⟩⟩
def fXb:SD:=λE Γ S=>E.nx Γ S
def dSeq (t u:SD):SD:=λE Γ S=>t { E with nx:=u E } Γ S
def dAsg (te:ED) (g:GD):SD:=λE Γ S=>te Γ S λd S1=>g d Γ S1 E.nx
def fXc (te:ED):SD:=λE Γ S=>te Γ S λ_ S1=>E.nx Γ S1
def dRet (te:ED):SD:=λE Γ S=>te Γ S E.rt
def dIfS (c:TD) (t u:SD):SD:=λE Γ S=>c Γ S λb S1=>if b=true then t E Γ S1 else u E Γ S1
section
variable {st:Stmt} {rest:List Stmt} {t u:SD}
theorem aZa:PSsD K X [] fXb:=.of dJ5 λz σ H j=>j.el λF S Γ E r g q c=>c.nx Γ S σ H (Ext.refl _ _) r g q
theorem aQ2 (h1:PSD K X st t) (h2:PSsD K X rest u):PSsD K X (st::rest) (dSeq t u):=.of (cQ2 h1.o h2.o) λJ σ H j=>j.el λF S Γ E r g q c =>
 ⟨F,S,Γ,{ E with nx:=u E },r,g,q,fun Γ1 G σ1 H1 z B g1 D=>⟨F,G,Γ1,E,B,g1,D,c.ext z⟩,c.rt,c.bk,c.ct⟩
theorem aQ6 (h1:PSD K X st t):PSsD K X [st] t:=⟨dJ6 h1.o⟩
theorem bQ3 {tg e:Expr} {te:ED} {g:GD} (he:PD K X e te) (hg:PGD K X tg g) (hs:swapsWithSole [tg] e pos.line X.env=pure false:=by rfl) (hw:swappedStores [tg] e X.env=pure none:=by rfl)
  (h1:(dy [tg] X.env).map (·.2)=[i5 tg X.env]:=by rfl):PSD K X (.Assign [tg] e pos) (dAsg te g):=.of (eXb he.o hg.o hs hw h1) λN σ H z=>z.el λF S Γ E r g q c =>
 ⟨F,S,Γ,_,r,g,q,λv d H1 L j D v1 G=>⟨F,L,Γ,d,_,D,g.ext j,v1,G,fun Γ2 J σ2 H2 B=>c.nx Γ2 J σ2 H2 (j.trans B)⟩⟩
theorem fQ6 {te:ED} {i:Nat}:∀ D' σ H,upS K (dAsg te (aZj i)) D' σ H->tAsg (upE K te) (bJ2 i) D' σ H:=λD' σ H z=>z.el λF S Γ E r g q c =>
 ⟨F,S,Γ,_,r,g,q,λv d H1 G j B v1 D=>c.nx _ G _ H1 j B ((g.ext j).set v1 i) D⟩
theorem aQe {i:Nat} {x:Str} {e:Expr} {te:ED} {pos':Pos} (hN:X.N.Nodup) (hi:X.N[i]?=some x) (hx:Loc X.env.scope x) (he:PD K X e te) (hs:iG e (some (.Name x pos')) pos.line X.env=pure false:=by rfl) (hf:X.fn x=true\/X.env.scope.names.lookup x=some .local:=by first | exact .inl rfl | exact .inr rfl | assumption) :
  PSD K X (.Assign [.Name x pos'] e pos) (dAsg te (aZj i)):=.of (eXc hN hi hx he.o hs hf) fQ6
theorem bJm {e:Expr} {te:ED} (he:PD K X e te) (hs:iG e none pos.line X.env=pure false:=by rfl):PSD K X (.Expr e pos) (fXc te):=.of (dJ7 he.o hs) λJ σ H z=>z.el λF S Γ E r g q c =>
 ⟨F,S,Γ,_,r,g,q,λv d H1 G j B v1 D=>c.nx Γ G σ H1 j B (g.ext j) D⟩
theorem aQf {e:Expr} {te:ED} (he:PD K X e te):PSD K X (.Return (some e) pos) (dRet te):=.of (eX9 he.o) λJ σ H j=>j.el λF S Γ E r g q c =>
 ⟨F,S,Γ,_,r,g,q,λv d H1 G z B v1 D=>c.rt v d H1 G z B v1 D⟩
theorem aJa {c:Expr} {sa sb:List Stmt} {tc:TD} (hc:PTD K X c tc) (ha:PSsD K X sa t) (hb:PSsD K X sb u):PSD K X (.If c sa sb pos) (dIfS tc t u):=.of (fZn hc.o ha.o hb.o) λL σ H J=>J.el λF S Γ E r g q c =>
 ⟨F,S,Γ,_,r,g,q,λz H1 G j B D=>by
  cases z with
  | true=>exact⟨F,G,Γ,E,B,g.ext j,D,c.ext j⟩
  | false=>exact⟨F,G,Γ,E,B,g.ext j,D,c.ext j⟩⟩
end
def FE (F:Am) (H:Hp) (F2:Am):Prop:=∀ a,F2 a->F a\/H a=none
theorem FE.refl (F:Am) (H:Hp):FE F H F:=λ_ h=>.inl h
structure ExtW (F:Am) (S:Sto) (H:Hp) (S':Sto) (H':Hp):Prop where
 keep:∀ a o,¬ mt S F a->H a=some o->H' a=some o
 new:∀ a,S' a≠none->S a≠none\/H a=none
theorem Ext.w {F:Am} {S S':Sto} {H H':Hp} (x:Ext S H S' H'):ExtW F S H S' H':=⟨λa o h e=>x.keep a o (aJ λn=>h (.inl n)) e,x.new⟩
theorem ExtW.kpF {F F2:Am} {S S':Sto} {H H':Hp} (x:ExtW F S H S' H') (f:FE F H F2):Keep (mt S F) H (mt S' F2) H':=⟨x.keep,λa h e=>λz=>by
 rcases z with z | z
 ·rcases x.new a z with y | y
  ·exact h (.inl y)
  ·exact e y
 ·rcases f a z with y | y
  ·exact h (.inr y)
  ·exact e y⟩
structure ItOk (K:Fg) (F:Am) (S:Sto) (H:Hp) (J:It) (xs:List D) (G:Sto->Prop):Prop where
 go:∀ F2,FE F H F2->∀ S2 H2,ExtW F S H S2 H2->Rp K F2 S2 H2->G S2->∀ i d,xs[i]?=some d->J.go i H2/\∀ x H3,J.yld i H2 x H3->Ext S2 H2 S2 H3/\Rp K F2 S2 H3/\RepV K (mt S2 F2) H3 d x
 stop:∀ F2,FE F H F2->∀ S2 H2,ExtW F S H S2 H2->Rp K F2 S2 H2->G S2->J.stop xs.length H2
abbrev IDk:=List D->(Sto->Prop)->Sto->Prop
abbrev ID:=Gm->Sto->IDk->Prop
def upI (K:Fg) (t:ID):TI:=fun σ H R=>∃ F S Γ QD,Rp K F S H/\RepG K (mt S F) H Γ σ/\t Γ S QD/\∀ J xs G H' S',Ext S H S' H'->Rp K F S' H'->ItOk K F S' H' J xs G->QD xs G S'->R J H'
theorem upI.el {K:Fg} {t:ID} {σ:St} {H:Hp} {R:It->Hp->Prop} {p:Prop} (h:upI K t σ H R) (k:∀ F S Γ QD,Rp K F S H->RepG K (mt S F) H Γ σ->t Γ S QD->(∀ J xs G H' S',Ext S H S' H'->Rp K F S' H'->ItOk K F S' H' J xs G->QD xs G S'->R J H')->p):p:=by
 obtain⟨F,S,Γ,QD,h0,h1,h2,j⟩:=h;exact k F S Γ QD h0 h1 h2 j
structure PID (K:Fg) (X:Cx) (tg e:Expr) (t:ID):Prop where
 o:PI X tg e (upI K t)
theorem PID.of {tg e:Expr} {te:TI} {t:ID} (h:PI X tg e te) (i:∀ σ H Q,upI K t σ H Q->te σ H Q):PID K X tg e t:=⟨λpins s σ H Q I q=>h pins s σ H Q I (i σ H Q q)⟩
def iSq (K:Fg) (tl:TE):TI:=fun σ H R=>tl σ H λx H1=>(∃ a,x=.ref a/\(∃ xs,SqL K H1 a xs)/\R (Itl K a) H1)\/∃ a,x=.ref a/\(∃ xs,SqT K H1 a xs)/\R (Itt K a) H1
theorem fXd {tg l:Expr} {tl:TE} (hl:PE X l tl) (hK:X.K=K:=by rfl):PI X tg l (iSq K tl):=by
 subst hK;intro pins s σ H R I h;refine thn (hl pins s σ H _ I h) λv s1 ⟨x,H1,j,r1,G⟩=>?_;have B:∀ b∈[s1.heap.objs.size],FpOk X pins H1 b:=λb L=>by
  have e:b=s1.heap.objs.size:=by simpa using L
  subst e;exact j.fpOk (Nat.le_refl _) (j.hok.fresh (Nat.le_refl _))
 rcases G with⟨a,e,⟨xs,z⟩,q⟩ | ⟨a,e,⟨xs,z⟩,q⟩
 ·subst e;cases r1;obtain⟨its,D,p,J⟩:=j.list z;exact d9 p.isList ⟨s1.heap.objs.size,[s1.heap.objs.size],_,_,H1,rfl,j.kept (t':=s1.toks) λb o e=>ag _ e,cZy a _,⟨_,ax _ rfl,rfl,rfl⟩,B,q⟩
 ·subst e;cases r1;obtain⟨its,D,p,J⟩:=j.tuple z;exact fP (show s1.heap.IsTuple a its.toArray from p) ⟨s1.heap.objs.size,[s1.heap.objs.size],_,_,H1,rfl,j.kept (t':=s1.toks) λb o e=>ag _ e,cZ7 a _,⟨_,ax _ rfl,rfl,rfl⟩,B,q⟩
def fQ7 (d:D) (xs:List D):Sto->Prop:=match d with
 | .ref a=>λS=>S a=some (.lst xs)
 | _=>λ_=>True
def dSq (te:ED):ID:=fun Γ S Q=>te Γ S λd S1=>∃ xs,sqIs S1 d xs/\Q xs (fQ7 d xs) S1
theorem eQr {F:Am} {S:Sto} {H:Hp} {p:Addr} {xs:List D} {us:List V} {G:Sto->Prop} (t:TupAt K (mt S F) H p us) (l:RepL K (mt S F) H xs us):ItOk K F S H (Itt K p) xs G where
 go:=λL f J H2 x q _ i d hd=>by
  have j:=(t.keep (x.kpF f)).sq;obtain⟨v,e1,B⟩:=l.get hd;refine⟨⟨us,v,j,e1⟩,λy N ⟨e2,z⟩=>?_⟩;subst e2
  have:=z us j
  rw[e1] at this;cases this;exact⟨Ext.refl _ _,q,B.keep (x.kpF f)⟩
 stop:=λL f J H2 x q _=>⟨us,(t.keep (x.kpF f)).sq,by rw[l.length];exact Nat.le_refl _⟩
theorem eQs {F:Am} {S:Sto} {H:Hp} {p:Addr} {xs:List D} {us:List V} {G:Sto->Prop} (t:LstAt K (mt S F) H p us) (l:RepL K (mt S F) H xs us):ItOk K F S H (Itl K p) xs G where
 go:=λL f J H2 x q _ i d hd=>by
  obtain⟨v,e1,B⟩:=l.get hd;have j:SqL K H2 p us:=(t.keep (x.kpF f)).sq;refine⟨⟨us,v,j,e1⟩,λy N ⟨e2,z⟩=>?_⟩;subst e2
  have:=z us j
  rw[e1] at this;cases this;exact⟨Ext.refl _ _,q,B.keep (x.kpF f)⟩
 stop:=λL f J H2 x q _=>⟨us,(t.keep (x.kpF f)).sq,by rw[l.length];exact Nat.le_refl _⟩
theorem eQt {F:Am} {S:Sto} {H:Hp} {p:Addr} {xs:List D}:ItOk K F S H (Itl K p) xs (fQ7 (.ref p) xs) where
 go:=λL f J H2 x j z i d hd=>by
  obtain⟨us,q,l⟩:=j.obj p _ z;obtain⟨v,e1,G⟩:=l.get hd;refine⟨⟨us,v,SqL.of q,e1⟩,λy N ⟨e2,B⟩=>?_⟩;subst e2
  have:=B us (SqL.of q)
  rw[e1] at this;cases this;exact⟨Ext.refl _ _,j,G⟩
 stop:=λL f J H2 x j z=>by
  obtain⟨us,q,l⟩:=j.obj p _ z;exact⟨us,SqL.of q,by rw[l.length];exact Nat.le_refl _⟩
theorem aZp {tg l:Expr} {tl:ED} (hl:PD K X l tl) (hK:X.K=K:=by rfl):PID K X tg l (dSq tl):=.of (fXd hl.o hK) fun σ H Q G=>G.el λF S Γ QD r g q c =>
 ⟨F,S,Γ,_,r,g,q,λv d H1 L z j v1 D=>by
  obtain⟨xs,hs,B⟩:=D;cases d with
  | tup ys =>
   cases hs;unfold RepV at v1;obtain⟨p,us,rfl,t,l⟩:=v1;exact .inr ⟨p,rfl,⟨us,t.sq⟩,c _ _ _ _ _ z j (eQr t l) B⟩
  | lst ys =>
   cases hs;unfold RepV at v1;obtain⟨p,us,rfl,t,l⟩:=v1;exact .inl ⟨p,rfl,⟨us,t.sq⟩,c _ _ _ _ _ z j (eQs t l) B⟩
  | ref p =>
   rw[rref v1];obtain⟨us,J,l⟩:=j.obj p _ hs;exact .inl ⟨p,rfl,⟨us,SqL.of J⟩,c _ _ _ _ _ z j eQt B⟩
  | _=>exact hs.elim⟩
def rngD (lo:Int):Nat->List D
 | 0=>[]
 | n + 1=>.int lo::rngD (lo + 1) n
theorem aX7:∀ (n:Nat) (lo:Int),(rngD lo n).length=n
 | 0,_=>rfl
 | n + 1,lo=>by simp[rngD,aX7 n]
theorem aJh:∀ (n:Nat) (lo:Int) (i:Nat) (d:D),(rngD lo n)[i]?=some d->i < n/\d=.int (lo + i)
 | 0,lo,i,d,h=>by simp[rngD] at h
 | n + 1,lo,0,d,h=>by simp[rngD] at h;exact⟨by lia,by rw[<- h];simp⟩
 | n + 1,lo,i + 1,d,h=>by
  have h':(rngD (lo + 1) n)[i]?=some d:=by simpa [rngD] using h
  obtain⟨h1,h2⟩:=aJh n (lo + 1) i d h';refine⟨by lia,?_⟩
  rw[h2]
  congr 1
  rw[Int.natCast_add];lia
theorem eQu {F:Am} {S:Sto} {H:Hp} {lo:Int} {n:Nat} {G:Sto->Prop}:ItOk K F S H (Itr lo n) (rngD lo n) G where
 go:=λB f z H2 x j _ i d hd=>by
  obtain⟨h1,rfl⟩:=aJh n lo i d hd;exact⟨h1,λy D ⟨e2,q⟩=>by subst e2;subst q;exact⟨Ext.refl _ _,j,by unfold RepV;rfl⟩⟩
 stop:=λB f z H2 x j _=>by rw[aX7];exact Nat.le_refl n
def fXe (ta:AD):ID:=fun Γ S Q=>ta Γ S λds S1=>match ds with
 | [.int j]=>(-(2 ^ 62)<=j/\j < 2 ^ 62)/\Q (rngD 0 j.toNat) (λ_=>True) S1
 | _=>False
theorem aZq {tg:Expr} {p:Pos} {ta:AD} (hg:Gl X "range") (hm:X.mg "range" = none) (ha:PAD K X [a] ta) (hs:ay [a] X.env=[(false,eval a X.env)]:=by rfl):PID K X tg (.Call (.Name "range" p) [a] [] pos) (fXe ta):=.of (cZz hg hm ha.o hs) fun σ H Q B=>B.el λF S Γ QD r g q c =>
 ⟨F,S,Γ,_,r,g,q,λL ds H1 N D J v1 z=>by
  match ds,z with
  | [.int j],z =>
   obtain⟨v,rfl,G⟩:=v1.one;rw[rint G];exact⟨j,rfl,z.1.1,z.1.2,c _ _ _ _ _ D J eQu z.2⟩⟩
def bQh (lo:Int):List D->List D
 | []=>[]
 | d::ds=>.tup [.int lo,d]::bQh (lo + 1) ds
theorem bQ4:∀ (ds:List D) (lo:Int),(bQh lo ds).length=ds.length
 | [],_=>rfl
 | d::ds,lo=>by simp[bQh,bQ4 ds]
theorem bQ5:∀ (ds:List D) (lo:Int) (i:Nat) (d:D),(bQh lo ds)[i]?=some d->∃ e,ds[i]?=some e/\d=.tup [.int (lo + i),e]
 | [],lo,i,d,h=>by simp[bQh] at h
 | e::ds,lo,0,d,h=>by simp[bQh] at h;exact⟨e,rfl,by rw[<- h];simp⟩
 | e::ds,lo,i + 1,d,h=>by
  have h':(bQh (lo + 1) ds)[i]?=some d:=by simpa [bQh] using h
  obtain⟨f,h1,h2⟩:=bQ5 ds (lo + 1) i d h';refine⟨f,by simpa using h1,?_⟩
  rw[h2]
  have:lo + 1 + (i:Int)=lo + ((i + 1:Nat):Int):=by rw[Int.natCast_add];lia
  rw[this]
theorem eQv {F:Am} {S:Sto} {H:Hp} {p:Addr} {i:Nat} {y:V} {d:D} (r:Rp K F S H) (hp:H p=none) (rv:RepV K (mt S F) H d y):Ext S H S (upd H p (.tup [.int i,y]))/\Rp K F S (upd H p (.tup [.int i,y]))/\RepV K (mt S F) (upd H p (.tup [.int i,y])) (.tup [.int (0 + i),d]) (.ref p):=by
 have x:Ext S H S (upd H p (.tup [.int i,y])):=Ext.same (aQw hp);refine⟨x,r.same (aQw hp),?_⟩;unfold RepV;exact⟨p,_,rfl,.inl ⟨r.nmt hp,.inl aQg⟩,RepL.cons (by unfold RepV;rw[Int.zero_add]) (RepL.cons (rv.ext x) RepL.nil)⟩
theorem eQw {F:Am} {S:Sto} {H:Hp} {p:Addr} {xs:List D} {us:List V} {G:Sto->Prop} (t:TupAt K (mt S F) H p us) (l:RepL K (mt S F) H xs us):ItOk K F S H (Ite K p) (bQh 0 xs) G where
 go:=λY f U H2 x B _ i d hd=>by
  obtain⟨e,he,rfl⟩:=bQ5 xs 0 i d hd;obtain⟨v,e1,L⟩:=l.get he;have j:=(t.keep (x.kpF f)).sq;refine⟨⟨us,v,j,e1⟩,λz Z ⟨q,y,N,O,R,J⟩=>?_⟩;subst O;subst R
  have:=J us j
  rw[e1] at this;cases this;exact eQv B N (L.keep (x.kpF f))
 stop:=λY f U H2 x B _=>⟨us,(t.keep (x.kpF f)).sq,by rw[bQ4,l.length];exact Nat.le_refl _⟩
def dEnT (ta:AD):ID:=fun Γ S Q=>ta Γ S λds S1=>match ds with
 | [.tup xs]=>Q (bQh 0 xs) (λ_=>True) S1
 | _=>False
theorem fQ8 {e:Expr} {ta:AD} {p:Pos} {elts:List Expr} {x1:Nat} {tpos:Pos} (hg:Gl X "enumerate") (hm:X.mg "enumerate" = none) (ha:PAD K X [e] ta) (hs:ay [e] X.env=[(false,eval e X.env)]:=by rfl) (hK:X.K=K:=by rfl) :
  PID K X (.Tuple elts x1 tpos) (.Call (.Name "enumerate" p) [e] [] pos) (dEnT ta):=.of (eJ5 hg hm ha.o hs hK) fun σ H Q B=>B.el λF S Γ QD r g q c =>
 ⟨F,S,Γ,_,r,g,q,λG ds H1 J x1 D v1 j=>by
  match ds,j with
  | [.tup xs],j =>
   obtain⟨v,rfl,z⟩:=v1.one;unfold RepV at z;obtain⟨p,us,rfl,t,l⟩:=z;exact⟨p,rfl,⟨us,t.sq⟩,c _ _ _ _ _ x1 D (eQw t l) j⟩⟩
def dZd (x:Str):List D:=x.cps.toList.map λc=>.str ⟨#[c]⟩
def forD (g:GD) (tb:SD) (G:Sto->Prop) (E:EndsD):List D->Gm->Sto->Prop
 | [],Γ,S=>G S/\E.nx Γ S
 | x::xs,Γ,S=>G S/\g x Γ S fun Γ2 S2=>tb { E with nx:=forD g tb G E xs,ct:=forD g tb G E xs,bk:=E.nx } Γ2 S2
def dFor (wi:ID) (g:GD) (tb:SD):SD:=λE Γ S=>wi Γ S λxs G S1=>forD g tb G E xs Γ S1
theorem aXl {α:Type} {xs:List α} {i:Nat} (h:i < xs.length):xs.drop i=xs[i]::xs.drop (i + 1):=bY h
theorem cQp {tg iter:Expr} {body:List Stmt} {wi:ID} {g:GD} {tb:SD} (hp:PassesOwn (aF X.prog X.w) X.A X.env X.xe) (hc:X.calm=true) (hi:PID K X tg iter wi) (hg:PGD K X tg g) (hb:PSsD K X body tb) (hs:∀ x,cQ iter X.env x=pure x:=by intro _;rfl):PSD K X (.For tg iter body [] pos) (dFor wi g tb):=.of (eXd hp hc hi.o hg.o hb.o hs) λD' σ H z0=>z0.el λF S Γ E r gm q c =>
 ⟨F,S,Γ,_,r,gm,q,λJ xs G H1 S1 Y r1 it q1=>by
  refine⟨λi m σ' H'=>m=xs.length - i/\i<=xs.length/\∃ S' Γ',Ext S1 H1 S' H'/\Rp K F S' H'/\RepG K (mt S' F) H' Γ' σ'/\forD g tb G E (xs.drop i) Γ' S',⟨xs.length,by simp,Nat.zero_le _,S1,Γ,Ext.refl _ _,r1,gm.ext Y,by simpa using q1⟩,?_⟩
  rintro i m σ' H' ⟨rfl,hi.o,S',Γ',U,r2,g2,f2⟩
  by_cases N:i < xs.length
  ·rw[aXl N] at f2;obtain⟨hG,f2⟩:=f2;obtain⟨hgo,hy⟩:=it.go F (FE.refl F H1) S' H' U.w r2 hG i xs[i] (af N);refine .inr ⟨hgo,fun σ'' D=>∃ B Γ'',Ext S1 H1 B D/\Rp K F B D/\RepG K (mt B F) D Γ'' σ''/\forD g tb G E (xs.drop (i + 1)) Γ'' B,fun σ'' D z=>⟨xs.length - (i + 1),by lia,rfl,N,z⟩,λx H3 y3=>?_⟩
   obtain⟨x3,r3,v3⟩:=hy x H3 y3;refine⟨F,S',Γ',xs[i],_,r3,g2.ext x3,v3,f2,fun Γ4 S4 σ4 H4 x4 r4 g4 q4=>⟨F,S4,Γ4,_,r4,g4,q4,?_⟩⟩;have j:=U.trans (x3.trans x4);exact⟨fun Γ5 O σ5 R L Z g5 q5=>⟨O,Γ5,j.trans L,Z,g5,q5⟩,λv d R O L=>c.rt v d R O (Y.trans (j.trans L)),fun Γ5 O σ5 R L=>c.nx Γ5 O σ5 R (Y.trans (j.trans L)),fun Γ5 O σ5 R L Z g5 q5=>⟨O,Γ5,j.trans L,Z,g5,q5⟩⟩
  ·have e:i=xs.length:=by lia
   subst e;rw[gz] at f2;exact .inl ⟨it.stop F (FE.refl F H1) S' H' U.w r2 f2.1,c.nx Γ' S' σ' H' (Y.trans U) r2 g2 f2.2⟩⟩
end
end L2
set_option maxHeartbeats 1000000
namespace L2
open PySem PySem.Spec PyProof.Rows
section
variable {X:Cx} {K:Fg} {pos:Pos} {k:Nat}
structure ExtX (D':Addr) (S:Sto) (H:Hp) (S':Sto) (H':Hp):Prop where
 keep:∀ a o,a≠D'->S a=none->H a=some o->H' a=some o
 live:∀ a,H a≠none->H' a≠none
 new:∀ a,S' a≠none->S a≠none\/H a=none
theorem Ext.x {D':Addr} {S S':Sto} {H H':Hp} (x:Ext S H S' H'):ExtX D' S H S' H':=⟨λa o _=>x.keep a o,x.live,x.new⟩
theorem ExtX.trans {D' : Addr} {S S1 S2 : Sto} {H H1 H2 : Hp} (x : ExtX D' S H S1 H1) (y : ExtX D' S1 H1 S2 H2) : ExtX D' S H S2 H2 :=
  ⟨λa o n h h' => y.keep a o n (by
      cases e : S1 a with
      | none => rfl
      | some z => rcases x.new a (by rw [e]; exact λz => by cases z) with z | z
                  · exact absurd h z
                  · rw [h'] at z; cases z) (x.keep a o n h h'), λa h => y.live a (x.live a h), λa h => by
    rcases y.new a h with z | z
    · exact x.new a z
    · exact .inr (aJ λn => x.live a n z)⟩
theorem ExtX.kp {D':Addr} {F:Am} {S S':Sto} {H H':Hp} (x:ExtX D' S H S' H') (hF:F D'):Keep (mt S F) H (mt S' F) H':=⟨λa o h e=>x.keep a o (by rintro rfl;exact h (.inr hF)) (aJ λn=>h (.inl n)) e,λa h e=>λz=>by
 rcases z with z | z
 ·rcases x.new a z with y | y
  ·exact h (.inl y)
  ·exact e y
 ·exact h (.inr z)⟩
theorem ExtX.w {D':Addr} {F:Am} {S S':Sto} {H H':Hp} (x:ExtX D' S H S' H') (hF:F D'):ExtW F S H S' H':=⟨λa o h e=>x.keep a o (by rintro rfl;exact h (.inr hF)) (aJ λn=>h (.inl n)) e,x.new⟩
def Free (L:List Nat) (σ:St):Prop:=∀ i∈L,σ[i]?=some none
abbrev BD:=Gm->Sto->List D->(List D->Sto->Prop)->Prop
def bQ6 (K:Fg) (L:List Nat) (tv:Addr->TB) (td:BD):Prop:=∀ D' F S H Γ σ acc zs N QD,Free L σ->F D'->Rp K F S H->RepG K (mt S F) H Γ σ->H D'=some (.lst zs)->RepL K (mt S F) H acc zs->td Γ S acc QD ->
 (∀ acc' S' H' zs',ExtX D' S H S' H'->Rp K F S' H'->H' D'=some (.lst zs')->RepL K (mt S' F) H' acc' zs'->QD acc' S'->N H')->tv D' σ H N
def bZj (te:ED):BD:=fun Γ S acc Q=>te Γ S λy S1=>acc.length < sizeLine/\Q (acc++[y]) S1
theorem aQi {L:List Nat} {te:ED}:bQ6 K L (λD'=>eXy D' (upE K te)) (bZj te):=by
 intro D' F S H Γ σ acc zs N QD _ j r g Y l q c;refine⟨F,S,Γ,_,r,g,q,λv d H1 B D G v1 ⟨R,O⟩=>?_⟩;have U:S D'=none:=(r.frm D' j).2;have J:B D'=none:=(G.frm D' j).2;have h1:H1 D'=some (.lst zs):=D.keep _ _ U Y;have y:ExtX D' B H1 B (upd H1 D' (.lst (zs++[v]))):=⟨λa o n _ e=>by rw[upd_ne n];exact e,λa h=>by
  by_cases e:a=D'
  ·subst e;rw[aQg];exact λz=>by cases z
  ·rw[upd_ne e];exact h,λa h=>.inl h⟩
 refine⟨zs,h1,by rw[l.length];exact R,c _ B _ (zs++[v]) (D.x.trans y) ?_ aQg ?_ O⟩
 ·exact⟨λa o e=>(G.obj a o e).keep (y.kp j) (upd_ne (by rintro rfl;rw[J] at e;cases e)),λa h=>by
   obtain⟨⟨ys,e,ct⟩,h2⟩:=G.frm a h
   by_cases z:a=D'
   ·subst z;exact⟨⟨_,aQg,trivial⟩,h2⟩
   ·exact⟨⟨ys,by rw[upd_ne z];exact e,ct⟩,h2⟩⟩
 ·exact RepL.app ((l.ext D).keep (y.kp j)) (RepL.cons (v1.keep (y.kp j)) RepL.nil)
def CG (K:Fg) (L L':List Nat) (g:TG) (gd:GD):Prop:=∀ F S H Γ σ d v Q QD,Free L σ->Rp K F S H->RepG K (mt S F) H Γ σ->RepV K (mt S F) H d v->gd d Γ S QD->(∀ Γ' S' σ' H',Ext S H S' H'->Rp K F S' H'->RepG K (mt S' F) H' Γ' σ'->Wk σ σ'->Free L' σ'->QD Γ' S'->Q σ' H')->g v σ H Q
theorem Free.set {L:List Nat} {σ:St} {i:Nat} {v:V} (h:Free (i::L) σ) (hi:i∉L):Free L (σ.set i (some v)):=λj q=>by
 rw[e6 (by rintro rfl;exact hi q)]
 exact h j (aq _ q)
theorem cg_name {L:List Nat} {i:Nat} (hi:i∉L:=by decide):CG K (i::L) L (bJ2 i) (aZj i):=λF S H Γ σ d v Q QD f r g j q c=>c _ S _ H (Ext.refl _ _) r (g.set j i) (dJl (f i ao)) (f.set hi) q
theorem cJc {L:List Nat} {i j:Nat} (hi:i∉j::L:=by decide) (hj:j∉L:=by decide):CG K (i::j::L) L (gTup K 2 (dJ8 (bJ2 i) (dJ8 (bJ2 j) gNil))) (fXa 2 (cJb (aZj i) (cJb (aZj j) fQ5))):=λF S H Γ σ d v Q QD f r g z q c=>by
 cases d with
 | tup ds =>
  obtain⟨p,us,rfl,sq,l⟩:=tup.st z;obtain⟨hl,q⟩:=q
  match ds,hl,q with
  | [J,G],_,q =>
   obtain⟨v1,v2,rfl,D,B⟩:=l.two;have f1:Free (j::L) (σ.set i (some v1)):=f.set hi;exact⟨p,_,rfl,sq,rfl,v1,_,rfl,v2,_,rfl,rfl,c _ S _ H (Ext.refl _ _) r ((g.set D i).set B j) ((dJl (f i ao)).trans (dJl (f1 j ao))) (f1.set hj) q.2⟩
 | _=>exact q.elim
def aX1 (g:GD) (tt:TD) (tb:BD) (G:Sto->Prop) (Γ0:Gm):List D->List D->Sto->(List D->Sto->Prop)->Prop
 | [],acc,S,Q=>G S/\Q acc S
 | x::xs,acc,S,Q=>G S/\g x Γ0 S fun Γ2 S2=>tt Γ2 S2 λb S3=>if b=true then tb Γ2 S3 acc λacc' S4=>aX1 g tt tb G Γ0 xs acc' S4 Q else aX1 g tt tb G Γ0 xs acc S3 Q
theorem cJd {L L':List Nat} {g:TG} {gd:GD} {tt:TD} {tv:Addr->TB} {tb:BD} (hg:CG K L L' g gd) (hb:bQ6 K L' tv tb) {D':Addr} {F:Am} {S:Sto} {H:Hp} {Γ:Gm} {σ:St} {acc:List D} {zs:List V} {N:Hp->Prop} {QD:List D->Sto->Prop} {J:It} {xs:List D} {G:Sto->Prop}
  (f:Free L σ) (hF:F D') (r:Rp K F S H) (gm:RepG K (mt S F) H Γ σ) (hH:H D'=some (.lst zs)) (l:RepL K (mt S F) H acc zs) (it:∀ S2 H2,ExtX D' S H S2 H2->Rp K F S2 H2->G S2->(∀ i d,xs[i]?=some d->J.go i H2/\∀ x H3,J.yld i H2 x H3->Ext S2 H2 S2 H3/\Rp K F S2 H3/\RepV K (mt S2 F) H3 d x)/\J.stop xs.length H2)
  (q:aX1 gd tt tb G Γ xs acc S QD) (c:∀ acc' S' H' zs',ExtX D' S H S' H'->Rp K F S' H'->H' D'=some (.lst zs')->RepL K (mt S' F) H' acc' zs'->QD acc' S'->N H'):dQu J σ g (upT K tt) (tv D') N H:=by
 refine⟨λi m H'=>m=xs.length - i/\i<=xs.length/\∃ S' acc' zs',ExtX D' S H S' H'/\Rp K F S' H'/\H' D'=some (.lst zs')/\RepL K (mt S' F) H' acc' zs'/\aX1 gd tt tb G Γ (xs.drop i) acc' S' QD,⟨xs.length,by simp,Nat.zero_le _,S,acc,zs,(Ext.refl _ _).x,r,hH,l,by simpa using q⟩,?_⟩
 rintro i m H' ⟨rfl,hi,S',acc',zs',Z,r2,h2,l2,f2⟩;have g2:=gm.keep (Z.kp hF)
 by_cases Y:i < xs.length
 ·rw[aXl Y] at f2;obtain⟨hG,f2⟩:=f2;obtain⟨hgo,hy⟩:=(it S' H' Z r2 hG).1 i xs[i] (af Y);refine .inr ⟨hgo,λB=>∃ O j R,ExtX D' S H O B/\Rp K F O B/\B D'=some (.lst R)/\RepL K (mt O F) B j R/\aX1 gd tt tb G Γ (xs.drop (i + 1)) j O QD,λB z=>⟨xs.length - (i + 1),by omega,rfl,Y,z⟩,λx H3 y3=>?_⟩
  obtain⟨x3,r3,v3⟩:=hy x H3 y3;refine hg F S' H3 Γ σ xs[i] x _ _ f r3 (g2.ext x3) v3 f2 fun Γ4 S4 σ4 H4 x4 r4 g4 wk fr4 q4=>⟨wk,F,S4,Γ4,_,r4,g4,q4,λz H5 S5 x5 r5 q5=>?_⟩;have U:=x3.trans (x4.trans x5);have h5:H5 D'=some (.lst zs'):=U.keep _ _ (r2.frm D' hF).2 h2;have l5:=l2.ext U;have x05:ExtX D' S H S5 H5:=Z.trans U.x;cases z with
  | false=>exact⟨S5,acc',zs',x05,r5,h5,l5,q5⟩
  | true=>exact hb D' F S5 H5 Γ4 σ4 acc' zs' _ _ fr4 hF r5 (g4.ext x5) h5 l5 q5 λacc6 S6 H6 zs6 x6 r6 h6 l6 q6=>⟨S6,acc6,zs6,x05.trans x6,r6,h6,l6,q6⟩
 ·have e:i=xs.length:=by omega
  subst e;rw[gz] at f2;exact .inl ⟨(it S' H' Z r2 f2.1).2,c acc' S' H' zs' Z r2 h2 l2 f2.2⟩
def fQ9 (wi:ID) (g:GD) (tt:TD) (tb:BD):BD:=fun Γ S acc Q=>wi Γ S λxs G S1=>aX1 g tt tb G Γ xs acc S1 Q
theorem dZe {L L':List Nat} {wi:ID} {g:TG} {gd:GD} {tt:TD} {tv:Addr->TB} {tb:BD} (hg:CG K L L' g gd) (hb:bQ6 K L' tv tb):bQ6 K L (λD'=>dXe (upI K wi) g (upT K tt) (tv D')) (fQ9 wi gd tt tb):=by
 intro D' F S H Γ σ acc zs N QD fr D r Y hH l q c;refine⟨F,S,Γ,_,r,Y,q,λJ xs G H1 S1 B r1 it q1=>?_⟩;have h1:H1 D'=some (.lst zs):=B.keep _ _ (r.frm D' D).2 hH;exact cJd hg hb fr D r1 (Y.ext B) h1 (l.ext B) (λZ H2 z R U=>⟨it.go F (FE.refl _ _) Z H2 (z.w D) R U,it.stop F (FE.refl _ _) Z H2 (z.w D) R U⟩) q1 λj S' H' O z=>c j S' H' O (B.x.trans z)
def eQx (is:List (Option Nat)) (Γ:Gm):Gm:=is.map λo=>o.bind λi=>(Γ[i]?).join
theorem RepG.at {M:Am} {H:Hp}:∀ {g:Gm} {σ:St} {i:Nat} {d:D},RepG K M H g σ->g[i]?=some (some d)->∃ v,σ[i]?=some (some v)/\RepV K M H d v
 | [],_,_,_,_,e=>by simp at e
 | none::g,_,0,_,_,e=>by simp at e
 | some d::g,_,0,e,⟨v,τ,rfl,q,r⟩,h=>by simp at h;subst h;exact⟨v,rfl,q⟩
 | none::g,_,i + 1,d,⟨v,τ,rfl,r⟩,h=>by
  obtain⟨u,e1,h1⟩:=RepG.at (i:=i) r (by simpa using h)
  exact⟨u,by simpa using e1,h1⟩
 | some _::g,_,i + 1,d,⟨v,τ,rfl,q,r⟩,h=>by
  obtain⟨u,e1,h1⟩:=RepG.at (i:=i) r (by simpa using h)
  exact⟨u,by simpa using e1,h1⟩
theorem RepG.capt {M:Am} {H:Hp} {g:Gm} {σ:St} (h:RepG K M H g σ):∀ is:List (Option Nat),RepG K M H (eQx is g) (capt is σ)
 | []=>rfl
 | o::is=>by
  have j:=RepG.capt h is;cases o with
  | none=>exact⟨_,_,rfl,j⟩
  | some i =>
   show RepG K M H ((g[i]?).join::eQx is g) ((σ[i]?).join::L2.capt is σ);cases e:g[i]? with
   | none=>exact⟨_,_,rfl,j⟩
   | some z =>
    cases z with
    | none=>exact⟨_,_,rfl,j⟩
    | some d =>
     obtain⟨v,e1,r⟩:=h.at e;rw[e1];exact⟨v,_,rfl,r,j⟩
def eQy (b:Bool) (is:List (Option Nat)) (wi:ID) (g:GD) (tt:TD) (tb:BD):ED:=fun Γ S Q=>wi Γ S λxs G S1=>aX1 g tt tb G (eQx is Γ) xs [] S1 λacc S2=>newL b acc S2 Q
theorem cJe {b:Bool} {L L':List Nat} {is:List (Option Nat)} {wi:ID} {g:TG} {gd:GD} {tt:TD} {tv:Addr->TB} {tb:BD} (hL:∀ σ,Free L (capt is σ)) (hg:CG K L L' g gd) (hb:bQ6 K L' tv tb):∀ σ H Q,upE K (eQy b is wi gd tt tb) σ H Q->cQ5 is (upI K wi) g (upT K tt) tv σ H Q:=fun σ H Q z0=>z0.el λF S Γ QD r gm q c =>
 ⟨F,S,Γ,_,r,gm,q,λJ xs G H1 D x1 r1 it q1 D' B=>by
  have R:D D'=none:=r1.sn B;have fe:FE F H1 (λa=>F a\/a=D'):=λa h=>h.elim .inl λe=>.inr (by rw[e];exact B)
  have nF:¬ F D':=λh=>by
   obtain⟨⟨ys,e,_⟩,_⟩:=r1.frm D' h;rw[B] at e;cases e
  have xe:Ext D H1 D (upd H1 D' (.lst [])):=Ext.same (aQw B);have kp:Keep (mt D F) H1 (mt D λa=>F a\/a=D') (upd H1 D' (.lst [])):=xe.w.kpF fe;have r2:Rp K (λa=>F a\/a=D') D (upd H1 D' (.lst [])):=⟨λa o e=>(r1.obj a o e).keep kp (upd_ne (by rintro rfl;rw[R] at e;cases e)),λa h=>by
   rcases h with h | h
   ·obtain⟨⟨ys,e,ct⟩,h2⟩:=r1.frm a h;exact⟨⟨ys,by rw[upd_ne (by rintro rfl;rw[B] at e;cases e)];exact e,ct⟩,h2⟩
   ·subst h;exact⟨⟨_,aQg,trivial⟩,R⟩⟩
  have old:∀ {N H2},ExtX D' D (upd H1 D' (.lst [])) N H2->Ext D H1 N H2:=λ{N H2} y=>⟨λa o h e=>y.keep a o (by rintro rfl;rw[B] at e;cases e) h (by rw[upd_ne (by rintro rfl;rw[B] at e;cases e)];exact e),λa h=>y.live a (xe.live a h),λa h=>by
   rcases y.new a h with z | z
   ·exact .inl z
   ·by_cases e:a=D'
    ·subst e;exact .inr B
    ·rw[upd_ne e] at z;exact .inr z⟩
  refine cJd hg hb (hL σ) (F:=λa=>F a\/a=D') (.inr rfl) r2 ((gm.ext x1).keep kp |>.capt is) aQg RepL.nil (λN H2 y r2 hG=>⟨it.go _ fe N H2 (old y).w r2 hG,it.stop _ fe N H2 (old y).w r2 hG⟩) q1 λj S' H' O y Z h3 l3 q3=>?_
  have less:Keep (mt S' λa=>F a\/a=D') H' (mt S' F) H':=⟨λ_ _ _ e=>e,λa h _=>λz=>h (z.elim .inl λw=>.inr (.inl w))⟩;have Y:=old y;have U:S' D'=none:=(Z.frm D' (.inr rfl)).2;have r4:Rp K F S' H':=⟨λa o e=>(Z.obj a o e).keep less rfl,λa h=>Z.frm a (.inl h)⟩;have nm:¬ mt S' F D':=λz=>z.elim (λw=>w U) nF;cases b with
  | false =>
   refine c (.ref D') (.lst j) H' S' (x1.trans Y) r4 ?_ q3;unfold RepV;exact⟨D',O,rfl,.inl ⟨nm,.inl h3⟩,l3.keep less⟩
  | true =>
   have x5:Ext D H1 (supd S' D' (.lst j)) H':=⟨Y.keep,Y.live,λa h=>by
    by_cases e:a=D'
    ·subst e;exact .inr B
    ·rw[aQ9 e] at h;exact Y.new a h⟩
   have k6:Keep (mt S' λa=>F a\/a=D') H' (mt (supd S' D' (.lst j)) F) H':=⟨λ_ _ _ e=>e,λa h _=>λz=>by
    rcases z with z | z
    ·by_cases e:a=D'
     ·exact h (.inr (.inr e))
     ·rw[aQ9 e] at z;exact h (.inl z)
    ·exact h (.inr (.inl z))⟩
   refine c (.ref D') (.ref D') H' (supd S' D' (.lst j)) (x1.trans x5) ⟨λa o e=>?_,λa h=>⟨(r4.frm a h).1,?_⟩⟩ (by unfold RepV;rfl) (q3 D' U)
   ·by_cases e1:a=D'
    ·subst e1;rw[aQ7] at e;cases e;exact⟨O,h3,l3.keep k6⟩
    ·rw[aQ9 e1] at e;exact(Z.obj a o e).keep k6 rfl
   ·rw[aQ9 (by rintro rfl;exact nF h)];exact(r4.frm a h).2⟩
def dYes:TD:=λ_ S Q=>Q true S
theorem aQn:PTs X [] (upT K dYes):=λpins s σ H Q I j=>j.el λF S Γ QD r g q c=>dJj pins s σ H Q I (c true H S (Ext.refl _ _) r q)
theorem aQj {L:List Nat} {is:List (Option Nat)} (h:(L.all λi=>decide (is[i]?=some none))=true):∀ σ,Free L (capt is σ):=fun σ i hi=>by
 have:=of_decide_eq_true (br.mp h i hi)
 unfold capt;rw[ba,this]
 rfl
theorem aXv {c:Expr} {t:TD} (h:PTD K X c t):PTs X [c] (upT K t):=dJk h.o
end
end L2
set_option maxHeartbeats 4000000
namespace L2
open PySem PySem.Spec PyProof.Rows
section
variable {prog:aC} {w:aO} {s:ai}
def Col (prog:aC) (w:aO) (s:ai) (v:ad) (Pv:List ad->Prop):Prop:=∀ (A:aY) (E:ad->ai->Prop) (R:List ad->ai->Prop),A.handled=none ->
 (∀ vals h' d tk,Pv vals->(∀ b o,s.heap.get? b=some o->h'.get? b=some o)->R vals { s with heap:=h',drawn:=d,toks:=tk })->aD (aF prog w) A (collect v) R E s
theorem cJf {a:Addr} {T:String} {o:Obj} {its:List ad} {n:Nat} (hT:T = "list"\/T = "tuple") (ho:s.heap.get? a=some o) (hc:o.cls=.type T) (hd:o.data=.seq its.toArray n) (hz:its.length<=sizeLine):Col prog w s (.ref a) (· = its):=λA E R _ h =>
 wpAny_collect_seq a hT ho hc hd (λh' k=>by
  have:=h its h' s.drawn s.toks rfl k
  simpa using this) (by simpa using hz)
theorem dZf {a:Addr} {vs:List (Key × ad)} (lo:(a == fN)=false) (hd:s.heap.DictOf (aQk prog w) a vs) (hz:vs.length<=sizeLine):Col prog w s (.ref a) (λvals=>vals.length=vs.length/\∀ (j:Nat) (v:ad),vals[j]?=some v->∃ (k:Key) (x:ad),vs[j]?=some (k,x)/\bZx k v=true):=λA E R G h=>by
 obtain⟨ep,z⟩:=hd.dictAt;refine PySem.W.kdu_collect (PySem.W.kdl_dict (knd:=aQk prog w) (kvs:=vs) (ep:=ep) lo) G z hz λh' B acc D q=>?_;exact h acc.toList h' s.drawn B ⟨by rw[aK];exact q.1,λj v e=>q.2 j v (by rw[<- aM];exact e)⟩ D
theorem aXw {A:aY} {E:ad->ai->Prop} {v:ad} {Pv:List ad->Prop} {Q:ad->ai->Prop} (hh:A.handled=none) (col:Col prog w s v Pv) (hz:∀ vals,Pv vals->vals.length<=sizeLine)
  (srt:∀ (vals:List ad) (h1:a9) (d:Drawn) (tk:Nat),Pv vals->(∀ b o,s.heap.get? b=some o->h1.get? b=some o)->aD (aF prog w) A.in1.in1 (cg.«list.sort» ⟨[.ref h1.objs.size],[]⟩) (λfin s'=>fin=.done (.ret .none)/\Q (.ref h1.objs.size) s') E { s with heap:=h1.push (cm "list" vals.toArray 0),drawn:=d,toks:=tk }) :
  aD (aF prog w) A (call (.builtin "sorted") [v]) Q E s:=by
 refine fu kind_sorted plain_sorted entry_sorted (args_sorted1 _) ?_;unfold cg.«sorted»;refine aa (m:=checkCount "sorted" 1 1 _) (ae ?_);refine aa (col A.in1 _ _ (by simp[hh]) λvals h1 d tk pv kp=>?_)
 refine aa (iB ?_ (hz vals pv));have j:(h1.push (cm "list" vals.toArray 0)).get? h1.objs.size=some (cm "list" vals.toArray 0):=ax _ rfl;refine aa (bh (cK slot_list_sort ⟨_,j,rfl⟩ entry_list_sort ?body (args_list_sort _)))
 case body =>
  refine c6 (srt vals h1 d tk pv kp) (λfin s' ⟨e,q⟩=>?_) λ_ _ e=>e;subst e;exact⟨_,rfl,ae ⟨_,rfl,q⟩⟩
theorem bQ7 {h:a9} {a:Addr} {vs:List ad} {n:Nat} {out:Array ad} (ho:h.get? a=some (cm "list" vs.toArray n)):(∃ c,(gy h a vs out).get? a=some (cm "list" out c))/\∀ b o,b≠a->h.get? b=some o->(gy h a vs out).get? b=some o:=by
 unfold gy;obtain⟨e1,j⟩:∃ e1,(h.update a (bK λ_=>(#[]:Array ad))).get? a=some (cm "list" #[] e1):=⟨_,fM ho λ_=>#[]⟩;have B:=bW h a (bK λ_=>(#[]:Array ad));have q:∀ b o,(h.update a (bK λ_=>(#[]:Array ad))).get? b=some o->(((h.update a (bK λ_=>(#[]:Array ad))).push (cm "tuple" vs.toArray 0)).push (cm "list" #[] 0)).get? b=some o:=λb o e=>ag _ (ag _ e);refine⟨⟨_,fM (q _ _ j) λ_=>out⟩,λb o z e=>?_⟩;have s2:=bW (((h.update a (bK λ_=>(#[]:Array ad))).push (cm "tuple" vs.toArray 0)).push (cm "list" #[] 0)) a (bK λ_=>out);exact(s2.2 b z).trans (q b o ((B.2 b z).trans e))
theorem cJg {A:aY} {E:ad->ai->Prop} {a:Addr} {vs:List ad} {ss:List Str} {n:Nat} {P:gV->ai->Prop} (ho:s.heap.get? a=some (cm "list" vs.toArray n)) (hS:jc vs ss) (h64:vs.length<=sizeLine)
  (h:∀ (out:List ad) (ss':List Str) (h':a9) (c:Nat),jc out ss'->ss'.Perm ss->sortedS ss'=true->h'.get? a=some (cm "list" out.toArray c)->(∀ b o,b≠a->s.heap.get? b=some o->h'.get? b=some o)->P (.done (.ret .none)) { s with heap:=h' }) :
  aD (aF prog w) A (cg.«list.sort» ⟨[.ref a],[]⟩) P E s:=by
 refine SF.treeK strKind_oneLt ho hS.keysOf (λz q rest e=>keyKind_strs (by rw[<- e];exact hS)) h64 λj D B=>?_
 obtain⟨ss',h1,h2,L⟩:=sorted_out_str hS D B;obtain⟨⟨c,J⟩,G⟩:=bQ7 (out:=(aN j).map (·.2)) ho;exact h _ ss' _ c h1 h2 L (by rw[J]) G
theorem cJh {A:aY} {E:ad->ai->Prop} {a:Addr} {vs:List ad} {ns:List Int} {n:Nat} {P:gV->ai->Prop} (ho:s.heap.get? a=some (cm "list" vs.toArray n)) (hI:gP vs ns) (h64:vs.length<=sizeLine)
  (h:∀ (out:List ad) (ns':List Int) (h':a9) (c:Nat),gP out ns'->ns'.Perm ns->ns'.Pairwise (·<=·)->h'.get? a=some (cm "list" out.toArray c)->(∀ b o,b≠a->s.heap.get? b=some o->h'.get? b=some o)->P (.done (.ret .none)) { s with heap:=h' }) :
  aD (aF prog w) A (cg.«list.sort» ⟨[.ref a],[]⟩) P E s:=by
 refine SF.treeI ho hI h64 λout ns' h1 h2 z=>?_;obtain⟨⟨c,q⟩,j⟩:=bQ7 (out:=out) ho;exact h _ ns' _ c h1 h2 z (by rw[q]) j
end
section
variable {X:Cx} {K:Fg}
def Src (K:Fg) (H:Hp) (x:V) (us:List V):Prop:=∃ a,x=.ref a/\(SqL K H a us\/SqT K H a us\/∃ kvs:List (Key × V),H a=some (.dK kvs)/\us=kvs.map λp=>kV p.1)
theorem bXi:∀ {kvs:List (Key × V)} {vs:List (Key × ad)} {vals:List ad},KV kvs vs->vals.length=vs.length->(∀ (j:Nat) (v:ad),vals[j]?=some v->∃ (k:Key) (x:ad),vs[j]?=some (k,x)/\bZx k v=true)->Vals (kvs.map λp=>kV p.1) vals
 | [],_,vals,.nil,hl,_=>by cases vals with
  | nil=>exact .nil
  | cons _ _=>simp at hl
 | p::kvs,_,vals,.cons (b:=q) D B,hl,h=>by
  cases vals with
  | nil=>simp at hl
  | cons v vals =>
   refine .cons ?_ (bXi B (by simpa using hl) λj v e=>by simpa using h (j + 1) v (by simpa using e))
   obtain⟨k,x,e,G⟩:=h 0 v rfl;have J:q=(k,x):=by simpa using e
   have z:p.1=k:=by rw[D.1,J]
   show RelV (kV p.1) v;rw[z];rcases aQl G with⟨i,t,rfl,rfl⟩ | ⟨y,t,rfl,rfl⟩
   ·exact⟨t,rfl⟩
   ·exact⟨t,rfl⟩
theorem Inv.toks {pins:List (Addr × Obj)} {σ:St} {H:Hp} {s:ai} (I:Inv X pins σ H s) {h':a9} (k:∀ b o,s.heap.get? b=some o->h'.get? b=some o) (d:Drawn) (tk:Nat):Inv X pins σ H { s with heap:=h',drawn:=d,toks:=tk }:=(I.kept (t':=tk) k).drawn d
theorem Inv.src {pins:List (Addr × Obj)} {σ:St} {H:Hp} {s:ai} (I:Inv X pins σ H s) (hK:X.K=K) {x:V} {u:ad} {us:List V} (h:Src K H x us) (r:RelV x u):Col X.prog X.w s u (λvals=>Vals us vals)/\us.length<=sizeLine:=by
 subst hK;obtain⟨a,rfl,h⟩:=h;cases r;rcases h with h | h | ⟨G,h,rfl⟩
 ·obtain⟨its,z,⟨o,n,J,L,_,hd⟩,B⟩:=I.list h;have hl:=z.length;exact⟨λA E R D q=>cJf (.inl rfl) J L hd (by lia) A E R D λvals h' d j e k=>q vals h' d j (by rw[e];exact z) k,B⟩
 ·obtain⟨its,z,⟨o,J,L,n,hd⟩,B⟩:=I.tuple h;have hl:=z.length;exact⟨λA E R D q=>cJf (.inr rfl) J L hd (by lia) A E R D λvals h' d j e k=>q vals h' d j (by rw[e];exact z) k,B⟩
 ·obtain⟨B,lo,vs,N,hd⟩:=I.hok a _ h;have hl:G.length=vs.length:=b6 N;exact⟨λA E R D q=>dZf lo hd (by lia) A E R D λvals h' d j e k=>q vals h' d j (bXi N e.1 e.2) k,by rw[aj];exact B⟩
def fQa (K:Fg):List V->Hp->VK->Prop:=λxs H Q=>∃ (x:V) (ss:List Str),xs=[x]/\Src K H x (ss.map V.str)/\∀ (p:Addr) (out:List Str),H p=none->out.Perm ss->out.Pairwise (λa b=>HT.ltS b a=false)->Q (.ref p) (upd H p (.lst (out.map V.str)))
theorem bQy:∀ {l:List Str},sortedS l=true->l.Pairwise λa b=>HT.ltS b a=false
 | [],_=>.nil
 | [x],_=>bJ _ _
 | x::y::l,h=>by
  have h':(!ltCps y.cps.toList x.cps.toList && risingS y l)=true:=h;rw[bm] at h';have G:=bQy (l:=y::l) h'.2;have B:HT.ltS y x=false:=by
   have:=h'.1
   rw[bT,ltCps_eq] at this;exact this
  refine aW.mpr ⟨λz D=>?_,G⟩;rcases aB.mp D with rfl | D
  ·exact B
  ·have j:=(aW.mp G).1 z D;cases e:HT.ltS z x with
   | false=>rfl
   | true =>
    by_cases q:y=x
    ·subst q;rw[j] at e;cases e
    ·have:=HT.ltS_tot B q
     have:=HT.ltS_tr e this
     rw[j] at this;cases this
theorem cJi (hK:X.K=K:=by rfl) (hc:X.calm=true:=by rfl):CallR X (.builtin "sorted") (fQa K):=by
 intro pins s σ H xs us Q I r h;obtain⟨x,ss,rfl,J,q⟩:=h;obtain⟨u,rfl,G⟩:=aX9 r;obtain⟨col,z⟩:=I.src hK J G;have len:∀ {vals:List ad},Vals (ss.map V.str) vals->vals.length=ss.length:=λv=>by have:=v.length;simpa using this.symm
 refine aXw (I.ok.hd hc) col (λvals v=>by rw[len v];simpa using z) λvals h1 d j pv kp=>?_
 have D:H h1.objs.size=none:=(I.toks kp d j).hok.fresh (Nat.le_refl _);refine cJg (s:={ s with heap:=h1.push (cm "list" vals.toArray 0),drawn:=d,toks:=j }) (ax _ rfl) (cJ3 (H:=H) (ds:=ss) (xs:=ss.map V.str) (by
  clear z q J col G pv len
  induction ss with
  | nil=>exact .nil
  | cons a ss L=>exact .cons rfl L) pv) (by rw[len pv];simpa using z) λout B h' c a1 a2 R O N=>⟨rfl,?_⟩
 have U:=I.toks kp d j;obtain⟨v1,v2⟩:=bZh (H:=H) a1;refine⟨.ref h1.objs.size,_,U.laid (a:=h1.objs.size) (o:=.lst (B.map V.str)) (t':=j) (λb o e=>N b o (Nat.ne_of_lt (az e)) (ag _ e)) (Nat.le_refl _) ⟨?_,out,c,v1,O⟩,rfl,q _ _ D a2 (bQy R)⟩
 have:=a2.length_eq
 rw[aj,this];simpa using z
def fQb (K:Fg):List V->Hp->VK->Prop:=λxs H Q=>∃ (x:V) (ns:List Int),xs=[x]/\Src K H x (ns.map V.int)/\∀ (p:Addr) (out:List Int),H p=none->out.Perm ns->out.Pairwise (·<=·)->Q (.ref p) (upd H p (.lst (out.map V.int)))
theorem cJj (hK:X.K=K:=by rfl) (hc:X.calm=true:=by rfl):CallR X (.builtin "sorted") (fQb K):=by
 intro pins s σ H xs us Q I r h;obtain⟨x,ss,rfl,J,q⟩:=h;obtain⟨u,rfl,G⟩:=aX9 r;obtain⟨col,B⟩:=I.src hK J G;have len:∀ {vals:List ad},Vals (ss.map V.int) vals->vals.length=ss.length:=λv=>by have:=v.length;simpa using this.symm
 refine aXw (I.ok.hd hc) col (λvals v=>by rw[len v];simpa using B) λvals h1 d j pv kp=>?_
 have D:H h1.objs.size=none:=(I.toks kp d j).hok.fresh (Nat.le_refl _);refine cJh (s:={ s with heap:=h1.push (cm "list" vals.toArray 0),drawn:=d,toks:=j }) (ax _ rfl) (cZc pv) (by rw[len pv];simpa using B) λout z h' c a1 a2 O N L=>⟨rfl,?_⟩
 have R:=I.toks kp d j;refine⟨.ref h1.objs.size,_,R.laid (a:=h1.objs.size) (o:=.lst (z.map V.int)) (t':=j) (λb o e=>L b o (Nat.ne_of_lt (az e)) (ag _ e)) (Nat.le_refl _) ⟨?_,out,c,aJp a1,N⟩,rfl,q _ _ D a2 O⟩
 have:=a2.length_eq
 rw[aj,this];simpa using B
def fQc (K:Fg):List V->Hp->VK->Prop:=λxs H Q=>∃ (x:V) (us:List V) (ds:List (List Str)),xs=[x]/\Src K H x us/\bb (dT K dS H) us ds/\∀ (p:Addr) (idx:List Nat),H p=none->idx.Perm (aT us.length)->(idx.map λi=>ds.getD i []).Pairwise (λa b=>HT.lexS b a=false)->(idx.map λi=>ds.getD i []).Perm ds->Q (.ref p) (upd H p (.lst (idx.map λi=>us.getD i V.non)))
theorem tsOf {pins:List (Addr × Obj)} {σ:St} {H:Hp} {s:ai} (I:Inv X pins σ H s) (hK:X.K=K) {h':a9} (k:∀ b o,s.heap.get? b=some o->h'.get? b=some o):∀ {us:List V} {vs:List ad} {ds:List (List Str)},Vals us vs->bb (dT K dS H) us ds->bb (KS.TS h') vs ds
 | _,_,_,.nil,.nil=>.nil
 | _,_,_,.cons r q,.cons d p=>by
  refine .cons ?_ (tsOf I hK k q p);obtain⟨b,xs,e,j,pp⟩:=d;rw[e] at r;cases r;rw[<- hK] at j;obtain⟨its,B,⟨o,D,z⟩,_⟩:=I.tuple j;exact⟨b,its.toArray,rfl,⟨o,k b o D,z⟩,aJx pp B⟩
theorem cQq {us:List V} {vs:List ad} (p:Vals us vs):∀ (idx:List Nat),(∀ i∈idx,i < us.length)->Vals (idx.map λi=>us.getD i V.non) (idx.map λi=>vs.getD i bX)
 | [],_=>.nil
 | i::idx,h=>by
  refine .cons ?_ (cQq p idx λj q=>h j (aq _ q));have hi:=h i ao;obtain⟨u,e,r⟩:=p.get (af hi);show RelV (us.getD i V.non) (vs.getD i bX);rw[ah,ah,e,af hi];exact r
theorem cJk (hu:X.A.units + 8 < cx) (hK:X.K=K:=by rfl) (hc:X.calm=true:=by rfl):CallR X (.builtin "sorted") (fQc K):=by
 intro pins s σ H xs us Q I r h;obtain⟨x,ys,ds,rfl,Z,L,q⟩:=h;obtain⟨u,rfl,N⟩:=aX9 r;obtain⟨col,Y⟩:=I.src hK Z N;have hl:ys.length=ds.length:=b6 L;refine aXw (I.ok.hd hc) col (λvals v=>by rw[<- v.length];exact Y) λvals h1 d j pv kp=>?_
 have B:=pv.length;have J:=I.toks kp d j;have G:H h1.objs.size=none:=J.hok.fresh (Nat.le_refl _);refine KS.sort_tupsL (s:={ s with heap:=h1.push (cm "list" vals.toArray 0),drawn:=d,toks:=j }) (ds:=ds) (by show X.A.units + 1 + 1 < _;lia) (ax _ rfl) (tsOf J hK (λb o e=>ag _ e) pv L) (by lia) λidx h' c z U R g O=>⟨rfl,?_⟩
 have D:∀ i∈idx,i < ys.length:=λi hi=>by have:=aP.mp (z.mem_iff.mp hi);lia
 have il:idx.length=vals.length:=by have:=z.length_eq;simpa using this
 refine⟨.ref h1.objs.size,_,J.laid (a:=h1.objs.size) (o:=.lst (idx.map λi=>ys.getD i V.non)) (t':=j) (λb o e=>O b o (Nat.ne_of_lt (az e)) (ag _ e)) (Nat.le_refl _) ⟨?_,_,c,cQq pv idx D,g⟩,rfl,q _ idx G (by rw[B];exact z) U R⟩
 rw[aj];lia
end
section
variable {κ:Type} [DecidableEq κ]
def valV (kvs:List (κ × V)) (k:κ):Option V:=(kvs.find? λkv=>decide (kv.1=k)).map (·.2)
theorem bZk {p:κ × V} {r:List (κ × V)} {k:κ} (e:p.1=k):valV (p::r) k=some p.2:=by simp[valV,cV,e]
theorem cQr {p:κ × V} {r:List (κ × V)} {k:κ} (e:¬ p.1=k):valV (p::r) k=valV r k:=by simp[valV,cV,e]
theorem KV.val {kvs:List (κ × V)} {vs:List (κ × ad)} (r:KV kvs vs) (k:κ):RelO (valV kvs k) (valueAt vs k):=by
 unfold KV at r
 induction r with
 | nil=>exact True.intro
 | @cons p q ps j h t D =>
  obtain⟨h1,h2⟩:=h
  by_cases e:p.1=k
  ·have B:q.1=k:=h1.symm.trans e;have b:valueAt (q::j) k=some q.2:=by simp[valueAt,cV,B]
   rw[bZk e,b];exact h2
  ·have B:¬ q.1=k:=λz=>e (h1.trans z);have b:valueAt (q::j) k=valueAt j k:=by simp[valueAt,cV,B]
   rw[cQr e,b];exact D
end
theorem eQz {P:aC} {w:aO} {k:Key} {u:ad} (r:RelV (kV k) u):(aQk P w).is k u=true:=by
 cases k with
 | inl i=>obtain⟨t,e⟩:=(show ∃ t,u=jt i t from r);subst e;exact bJ0 P w i t
 | inr x=>obtain⟨t,e⟩:=(show ∃ t,u=iF x t from r);subst e;exact bJ1 P w x t
theorem bXj {P:aC} {w:aO}:∀ {ks:List Key} {us:List ad},Vals (ks.map kV) us->ItemsAre (aQk P w) ks us
 | [],_,r=>by rw[dP] at r;cases r;exact .nil
 | k::ks,_,r=>by
  rw[bi] at r;cases r with
  | cons h t=>exact .cons (eQz h) (bXj t)
abbrev KT (H:Hp):List (List Key × V)->List (List Key × Addr × ad)->Prop:=bb λp q=>p.1=q.1/\H q.2.1=some (.tup (p.1.map kV))/\RelV p.2 q.2.2
theorem KT.val {H:Hp} {kvs:List (List Key × V)} {xs:List (List Key × Addr × ad)} (r:KT H kvs xs) (k:List Key):RelO (valV kvs k) ((atKey xs k).map (·.2)):=by
 induction r with
 | nil=>exact True.intro
 | @cons p q ps j h t D =>
  obtain⟨h1,_,h2⟩:=h
  by_cases e:p.1=k
  ·have B:q.1=k:=h1.symm.trans e;have b:atKey (q::j) k=some q.2:=by simp[atKey,cV,B]
   rw[bZk e,b];exact h2
  ·have B:¬ q.1=k:=λz=>e (h1.trans z);have b:atKey (q::j) k=atKey j k:=by simp[atKey,cV,B]
   rw[cQr e,b];exact D
section
variable {P:aC} {w:aO} {H:Hp} {h:a9} {a:Addr}
theorem fQd {u:HO} (ok:HOk P w H h) (e:Rd H a u):ObjOk P w H h a u:=e.ok ok
theorem fQe {kvs:List (Key × V)} (ok:HOk P w H h) (e:Rd H a (.dK kvs)):kvs.length<=sizeLine/\(a == fN)=false/\∃ vs,KV kvs vs/\h.DictOf (aQk P w) a vs :=
 show ObjOk P w H h a (.dK kvs) from fQd ok e
theorem key_of {ks:List Key} (ok:HOk P w H h) (e:H a=some (.tup (ks.map kV))):(tupleKind (aQk P w)).is h ks a:=by
 obtain⟨_,its,r,⟨o,h1,h2,n,j⟩,_⟩:=(show ObjOk P w H h a (.tup (ks.map kV)) from ok a _ e)
 exact⟨o,its.toArray,n,h1,h2,j,by simpa using bXj r⟩
theorem fQf {kvs:List (List Key × V)} (ok:HOk P w H h) (e:Rd H a (.dT kvs)):kvs.length<=sizeLine/\(a == fN)=false /\
  ∃ xs,KT H kvs xs/\h.DictOfH (tupleKind (aQk P w)) a xs:=by
 obtain⟨z,y,xs,r,o,es,N,h1,h2,L,J,G⟩:=(show ObjOk P w H h a (.dT kvs) from fQd ok e)
 refine⟨z,y,xs,r,o,es,N,h1,h2,L,J,λx j=>?_,G⟩;have all:∀ {l:List (List Key × V)} {m:List (List Key × Addr × ad)},KT H l m->∀ x∈m,(tupleKind (aQk P w)).is h x.1 x.2.1:=by
  intro l m q
  induction q with
  | nil=>intro x j;exact nomatch j
  | @cons p q ps O B t D =>
   intro x j;rcases aB.mp j with e | j
   ·subst e;exact key_of ok (by rw[<- B.1];exact B.2.1)
   ·exact D x j
 exact all r x j
end
def DGet (H:Hp) (a:Addr) (y:V) (r:Option V):Prop :=
 (∃ kvs k,Rd H a (.dK kvs)/\y=kV k/\r=valV kvs k)\/∃ kvs k b,Rd H a (.dT kvs)/\y=.ref b/\H b=some (.tup (k.map kV))/\r=valV kvs k
section
variable {X:Cx} {pins:List (Addr × Obj)} {σ:St} {H:Hp} {s:ai} {a:Addr} {y v:V} {u r:ad} {o:Option V} {A:aY} {E:ad->ai->Prop}
theorem Inv.big (I:Inv X pins σ H s):fN < s.heap.objs.size:=by
 have h:a8 < s.heap.objs.size:=(I.mod.glob.keeps I.bk).lt;exact Nat.lt_trans (by decide) h
theorem cJl {Q:ad->ai->Prop} (hu:A.units + 1 < cx) (I:Inv X pins σ H s) (g:DGet H a y (some v)) (ry:RelV y u) (h:∀ w' s',Inv X pins σ H s'->RelV v w'->Q w' s') :
  aD (aF X.prog X.w) A (gA (.ref a) u) Q E s:=by
 rcases g with⟨q,k,e,D,l⟩ | ⟨q,k,b,e,D,L,l⟩
 ·subst D;obtain⟨z,hd,G,rel,dd⟩:=fQe I.hok e;obtain⟨w',hw,j⟩:=RelO.some_of (v:=v) (o:=valueAt G k) (by rw[l];exact rel.val k)
  exact wpAny_getItem_of (eQz ry) dd.mapOf hw (h w' _ (I.tok _) j)
 ·subst D;cases (show u=gq b from ry)
  obtain⟨z,hd,xs,rel,dd⟩:=fQf I.hok e;obtain⟨w',hw,j⟩:=RelO.some_of (v:=v) (o:=(atKey xs k).map (·.2)) (by rw[l];exact rel.val k)
  obtain⟨p,J,B⟩:=dh.mp hw;refine wpAny_getItem_heap (tupleKind_room_in1 hu) (key_of I.hok L) dd J ?_;rw[B];exact h w' _ (I.tok _) j
theorem fQg {P:aC} {w:aO} {H':Hp} {h':a9} {kvs:List (Key × V)} {vs:List (Key × ad)} (z:kvs.length<=sizeLine) (hd:(a == fN)=false) (rel:KV kvs vs) (dd:h'.DictOf (aQk P w) a vs) :
  ObjOk P w H' h' a (.dK kvs):=⟨z,hd,vs,rel,dd⟩
end
def NoSl (i:Expr):Prop:=∀ ov iv,subscripted i false ov iv=operate [ov,iv] (gA ov iv)
theorem subD_of {prog:aC} {w:aO} {A:aY} {E:ad->ai->Prop} {s:ai} {env:Env} {value slice:Expr} {pos:Pos} {T id:String} {Q:ad->ai->Prop}
  (hl:typeLookup (.type T) "__getitem__" = pure (some (.builtin id))) (hs:NoSl slice)
  (h:aD (aF prog w) A (eval value env) (λo s₁=>aD (aF prog w) A (eval slice env) (λi s₂=>s₂.TypeIs o T/\aD (aF prog w) A (gA o i) Q E s₂) E s₁) E s) :
  aD (aF prog w) A (eval (.Subscript value slice pos) env) Q E s:=by
 refine Subscript_ (c6 h (λo s₁ B=>c6 B (λi s₂ j=>?_) λ_ _ x=>x) λ_ _ x=>x);obtain⟨D,j⟩:=j;unfold subscriptTail;refine aa ?_;rw[getitemInPython_of_ne D.not_modules];refine aa (gG D hl ?_);have fin:aD (aF prog w) A (subscripted slice false o i) (λr q=>aD (aF prog w) A (letTemporaryGo value o r >>= λ_=>pure r) Q E q) E s₂:=by
  rw[hs o i];exact wpAny_operating (c6 j (λr q z=>aa (wpAny_letTemporaryGo (ae z))) λ_ _ x=>x)
 first
  | exact ae (aa fin)
  | exact aa (ae (aa fin))
  | exact aa fin
theorem bJn {X:Cx} {pins:List (Addr × Obj)} {σ:St} {H:Hp} {s:ai} {a:Addr} {y:V} {o:Option V} (I:Inv X pins σ H s) (g:DGet H a y o):s.TypeIs (.ref a) "dict":=by
 rcases g with⟨j,k,e,_,_⟩ | ⟨j,k,b,e,_,_,_⟩
 ·obtain⟨_,_,q,_,dd⟩:=fQe I.hok e;exact dd.typeIs
 ·obtain⟨_,_,xs,_,dd⟩:=fQf I.hok e;exact dd.typeIs
def fXf (td ty:TE):TE:=fun σ H Q=>td σ H λx H1=>ty σ H1 λy H2=>∃ a v,x=.ref a/\DGet H2 a y (some v)/\Q v H2
section
variable {X:Cx} {o i e value:Expr} {pos pos' tpos:Pos} {td ty tv:TE}
theorem eZ0 (hu:X.A.units + 1 < cx) (ho:PE X o td) (hi:PE X i ty) (hs:NoSl i):PE X (.Subscript o i pos) (fXf td ty):=by
 intro pins s σ H Q I h;refine subD_of PySem.F.slot_dict_getitem.lookup hs (thn (ho pins s σ H _ I h) λu s1 ⟨x,H1,L,B,G⟩=>thn (hi pins s1 σ H1 _ L G) λiv s2 ⟨y,H2,q,z,a,v,ex,g,D⟩=>?_);subst ex;obtain rfl:u=gq a:=B;exact⟨bJn q g,cJl hu q g z λN s3 J j=>⟨v,H2,J,j,D⟩⟩
end
section
variable {X:Cx} {K:Fg} {pos:Pos} {k:Nat}
section
variable {elt target iter:Expr} {ifs:List Expr} {gs:List iw} {scope:Scope} {N':List Str} {is:List (Option Nat)} {wi:ID} {g:TG} {gd:GD} {tt:TD} {tv:Addr->TB} {tb:BD} {oc:Option Str} {m:ad->Env->Sem Unit} {b:Bool}
theorem aQt (L L':List Nat) (hcalm:X.calm=true) (hN:X.N.Nodup)
  (hturn:∀ it acc env,fE (.ListComp elt (⟨target,iter,ifs,0⟩::gs) scope pos) 0 it acc env=aZh target ifs iter.pos (m acc env) (.compLoop (.ListComp elt (⟨target,iter,ifs,0⟩::gs) scope pos) 0 it acc env) it env)
  (cp:Cap X.N scope N' is) (hL:∀ σ,Free L (capt is σ)) (hi:PID K X target iter wi) (hgd:CG K L L' g gd)
  (hg:∀ cl C fp s H,PG (aQm X N' scope cl C fp s H oc) target g) (ht:∀ cl C fp s H,PTs (aQm X N' scope cl C fp s H oc) ifs (upT K tt)) (hbd:bQ6 K L' tv tb) (hb:∀ cl C fp s H D,PB (aQm X N' scope cl C fp s H oc) (m (.ref D) (jo scope cl C X.env)) (tv D))
  (hcf:∀ n acc,fQ n scope.names acc=ocl oc n acc:=by intro _ _;rfl) (hpc:∀ h,iK h scope.names=ohp oc h:=by intro _;rfl)
  (hkind:scope.kind=.function:=by rfl) (hcell:∀ y∈scope.names,y.2=.cell->oc=some y.1:=by decide +kernel)
  (hu:∀ y∈scope.names,scope.names.lookup y.1=some y.2:=by decide +kernel) (hoc:∀ x,oc=some x->scope.names.lookup x=some .cell:=by intro x h;cases h <;> rfl)
  (hVb:okV scope.names X.env.scope.names=true:=by first | rfl | kernel_rfl)
  (hs:∀ x,cQ iter X.env x=pure x:=by intro _;rfl) :
  PD K X (.ListComp elt (⟨target,iter,ifs,0⟩::gs) scope pos) (eQy b is wi gd tt tb):=.of (dQw hcalm hN hturn cp hi.o hg ht hb hcf hpc hkind hcell hu hoc hVb hs) (cJe hL hgd hbd)
theorem cJm {x:Str} {i:Nat} {pos' spos:Pos} (hix:X.N[i]?=some x) (hx:Loc X.env.scope x) (L L':List Nat) (hcalm:X.calm=true) (hN:X.N.Nodup)
  (hturn:∀ it acc env,fE (.ListComp elt (⟨target,iter,ifs,0⟩::gs) scope pos) 0 it acc env=aZh target ifs iter.pos (m acc env) (.compLoop (.ListComp elt (⟨target,iter,ifs,0⟩::gs) scope pos) 0 it acc env) it env)
  (cp:Cap X.N scope N' is) (hL:∀ σ,Free L (capt is σ)) (hi:PID K X target iter wi) (hgd:CG K L L' g gd)
  (hg:∀ cl C fp s H,PG (aQm X N' scope cl C fp s H oc) target g) (ht:∀ cl C fp s H,PTs (aQm X N' scope cl C fp s H oc) ifs (upT K tt)) (hbd:bQ6 K L' tv tb) (hb:∀ cl C fp s H D,PB (aQm X N' scope cl C fp s H oc) (m (.ref D) (jo scope cl C X.env)) (tv D))
  (hcf:∀ n acc,fQ n scope.names acc=ocl oc n acc:=by intro _ _;rfl) (hpc:∀ h,iK h scope.names=ohp oc h:=by intro _;rfl)
  (hkind:scope.kind=.function:=by rfl) (hcell:∀ y∈scope.names,y.2=.cell->oc=some y.1:=by decide +kernel)
  (hu:∀ y∈scope.names,scope.names.lookup y.1=some y.2:=by decide +kernel) (hoc:∀ x,oc=some x->scope.names.lookup x=some .cell:=by intro x h;cases h <;> rfl)
  (hVb:okV scope.names X.env.scope.names=true:=by first | rfl | kernel_rfl)
  (hs:∀ x,cQ iter X.env x=pure x:=by intro _;rfl)
  (hsw:iG (.ListComp elt (⟨target,iter,ifs,0⟩::gs) scope pos) (some (.Name x pos')) spos.line X.env=pure true:=by first | rfl | kernel_rfl) (hf:X.fn x=true\/X.env.scope.names.lookup x=some .local:=by first | exact .inl rfl | exact .inr rfl | assumption) :
  PSD K X (.Assign [.Name x pos'] (.ListComp elt (⟨target,iter,ifs,0⟩::gs) scope pos) spos) (dAsg (eQy b is wi gd tt tb) (aZj i)):=.of (dJo hix hx hcalm hN hturn cp hi.o hg ht hb hcf hpc hkind hcell hu hoc hVb hs hsw hf) λR σ H B=>B.el λF S Γ E r z q c=>by
 refine cJe (tt:=tt) (b:=b) hL hgd hbd σ H _ ⟨F,S,Γ,_,r,z,q,λv d H1 O j G v1 J=>?_⟩;exact c.nx _ O _ H1 j G ((z.ext j).set v1 i) J
end
def dCut (t u:SD):SD:=λE Γ S=>∃ M:Gm->Sto->Prop,t { E with nx:=M } Γ S/\∀ Γ' S',M Γ' S'->u E Γ' S'
theorem eZ1 {st:Stmt} {rest:List Stmt} {t u:SD} (h1:PSD K X st t) (h2:PSsD K X rest u):PSsD K X (st::rest) (dCut t u):=.of (cQ2 h1.o h2.o) λJ σ H ⟨F,S,Γ,E,r,g,⟨M,q,G⟩,c⟩ =>
 ⟨F,S,Γ,{ E with nx:=M },r,g,q,fun Γ1 j σ1 H1 z B g1 D=>⟨F,j,Γ1,E,B,g1,G Γ1 j D,c.ext z⟩,c.rt,c.bk,c.ct⟩
abbrev SpD:=List D->Sto->DK->Prop
def spU (K:Fg) (sp:SpD):Sp:=λvs H Q _=>∃ F S ds QD,Rp K F S H/\RepL K (mt S F) H ds vs/\sp ds S QD/\Cn K F S H QD Q
theorem aQ3 {x:Str} {ps:List Str} {sp:SpD} {p:Pos} {e:Expr} {es:List Expr} {t:AD} (Df':Df X.prog X.w X.K X.mg X.base k x ps (spU K sp)) (hr:Room k X.A) (hg:Gl X x) (ha:PAD K X (e::es) t)
  (hdb:(x == ("__debug__" : Str))=false:=by decide) (he:ay (e::es) X.env=(false,eval e X.env)::ay es X.env:=by rfl) (hpl:(cD pos (ay es X.env)).any (·.1)=false:=by rfl) :
  PD K X (.Call (.Name x p) (e::es) [] pos) (dCB sp t):=.of (dQt Df' hr hg ha.o hdb he hpl) fun σ H Q j=>j.el λF S Γ QD r g q c =>
 ⟨F,S,Γ,_,r,g,q,λB ds H1 J z D v1 G=>by
  show spU K sp (B++[]) H1 Q E0;rw[ci];exact⟨F,J,ds,QD,D,v1,G,Cn.shift c z⟩⟩
inductive Frz (S S':Sto):D->D->Prop where
 | same (d:D):Frz S S' d d
 | ref {a:Addr} {xs ys:List D} (h:S a=some (.lst xs)) (h':S' a=none) (l:Frz S S' (.tup xs) (.tup ys)):Frz S S' (.ref a) (.lst ys)
 | nil:Frz S S' (.tup []) (.tup [])
 | cons {d e:D} {ds es:List D} (h:Frz S S' d e) (l:Frz S S' (.tup ds) (.tup es)):Frz S S' (.tup (d::ds)) (.tup (e::es))
theorem dXw {F:Am} {S S':Sto} {H:Hp} (r:Rp K F S H) (hs:∀ a o,S' a=some o->S a=some o):∀ {d e:D},Frz S S' d e->(∀ v,RepV K (mt S F) H d v->RepV K (mt S' F) H e v)/\(∀ ds es,d=.tup ds->e=.tup es->∀ vs,RepL K (mt S F) H ds vs->RepL K (mt S' F) H es vs):=by
 intro d e h;have kp:Keep (mt S F) H (mt S' F) H:=(Ext.less (H:=H) hs).kp
 induction h with
 | same d=>exact⟨λv h=>h.keep kp,λds es e1 e2 vs l=>by cases e1;cases e2;exact l.keep kp⟩
 | @ref a xs ys h h' l N =>
  refine⟨λv j=>?_,λds es e1=>by cases e1⟩
  rw[rref j];obtain⟨us,O,J⟩:=r.obj a _ h;unfold RepV;refine⟨a,us,rfl,.inl ⟨λz=>?_,.inl O⟩,N.2 xs ys rfl rfl us J⟩;rcases z with z | z
  ·exact z h'
  ·rw[(r.frm a z).2] at h;cases h
 | nil=>exact⟨λv h=>h.keep kp,λds es e1 e2 vs l=>by cases e1;cases e2;exact l.keep kp⟩
 | @cons d e ds es h l B q =>
  have ls:∀ vs,RepL K (mt S F) H (d::ds) vs->RepL K (mt S' F) H (e::es) vs:=λvs l=>by
   unfold RepL at l ⊢;obtain⟨v,vs,rfl,G,L⟩:=l;exact⟨v,vs,rfl,B.1 v G,q.2 ds es rfl rfl vs L⟩
  refine⟨λv j=>?_,λU R e1 e2 vs l=>by cases e1;cases e2;exact ls vs l⟩
  unfold RepV at j ⊢;obtain⟨a,us,rfl,t,l⟩:=j;exact⟨a,us,rfl,t.keep kp,ls us l⟩
def rtD (Q:DK):DK:=λd S=>∃ d' S',(∀ a o,S' a=some o->S a=some o)/\Frz S S' d d'/\Q d' S'
theorem aQa {Q:DK} {d:D} {S:Sto} (h:Q d S):rtD Q d S:=⟨d,S,λ_ _ e=>e,.same d,h⟩
theorem aXx {Q:DK} {d:D} {S S':Sto} (hs:∀ a o,S' a=some o->S a=some o) (h:Q d S'):rtD Q d S:=⟨d,S',hs,.same d,h⟩
def dZg (Q:DK):EndsD:={ nx:=λ_ S=>rtD Q .non S,rt:=rtD Q }
def bQz (N:List Str) (ds:List D):Gm:=ds.map some++gY (N.length - ds.length) none
theorem cQs {M:Am} {H:Hp} {N:List Str} {ds:List D} {vs:List V} (l:RepL K M H ds vs):RepG K M H (bQz N ds) (start N vs):=by
 have j:∀ n,RepG K M H (gY n none) (gY n none):=λn=>by
  induction n with
  | zero=>exact rfl
  | succ n q=>exact⟨none,_,rfl,q⟩
 have gen:∀ {ds:List D} {vs:List V} {g:Gm} {σ:St},RepL K M H ds vs->RepG K M H g σ->RepG K M H (ds.map some++g) (vs.map some++σ):=by
  intro ds
  induction ds with
  | nil=>intro vs g σ l h;unfold RepL at l;subst l;exact h
  | cons d ds q =>
   intro vs g σ l h;unfold RepL at l;obtain⟨v,vs,rfl,r,l⟩:=l;exact⟨v,_,rfl,r,q l h⟩
 unfold bQz start;rw[l.length];exact gen l (j _)
theorem aZf {P:aC} {w:aO} {mg:Str->Option ad} {base:a9} {x:Str} {st:Stmt} {N ps:List Str} {sp:SpD} (T:Tx K mg x st) (S:FnScope N ps (aQ4 st))
  (b:∀ {f:Addr} {fd:dw},Fun K x x st f fd->Binds K fd ps []) (len:∀ ds S Q,sp ds S Q->ds.length=ps.length)
  (h:∀ (f:Addr) (cdv:ad) (A:aY) (outer:List Env) (s:ai) (H:Hp) (E:XK),Room k (A.deeper (iu x (aQ4 st) s.heap.objs.size f cdv)) ->
   ∃ t,PSsD K (cxOf CX0 P w K mg base N x (aQ4 st) f cdv A outer s H E).nox (aZk st) t/\∀ ds S Q,sp ds S Q->t (dZg Q) (bQz N ds) S):Df P w K mg base (k + 1) x ps (spU K sp):=by
 refine T.df b λ{f fd} Z=>Z.ok S (λL H Q E B=>by obtain⟨F,S,ds,QD,r,l,j,c⟩:=B;rw[l.length];exact len ds S QD j) (λcdv A outer s H L Q E' O B=>?_)
 obtain⟨F,S,ds,QD,r,l,j,c⟩:=B;obtain⟨t,h1,h2⟩:=h f cdv A outer s H E' O;have fin:∀ v d H' S',Ext S H S' H'->Rp K F S' H'->RepV K (mt S' F) H' d v->rtD QD d S'->Q v H':=λv d H' S' D z v1 J=>by
  obtain⟨U,Y,G,R,q⟩:=J;exact c v U H' Y (D.trans (Ext.less G)) (z.less G) ((dXw z G R).1 v v1) q
 exact⟨_,h1.o,F,S,bQz N ds,dZg QD,r,cQs l,h2 ds S QD j,fun Γ' S' σ' H' D z g1 q=>fin .non .non H' S' D z (by unfold RepV;rfl) q,fin,λ_ _ _ _ _ _ _ q=>q.elim,λ_ _ _ _ _ _ _ q=>q.elim⟩
def bXk (n:Nat):SpD:=λds S Q=>∃ ns:List Int,ds=[.lst (ns.map D.int)]/\ns.length<=n/\(∀ a,S a=none)/\∀ S',Q (.bl true) S'
theorem fQh {M:Am} {H:Hp}:∀ {as:List Int},RepL K M H (as.map D.int) (as.map V.int)
 | []=>RepL.nil
 | a::as=>RepL.cons (by unfold RepV;rfl) fQh
theorem fQi {n:Nat} {H:Hp} {a:Addr} {ns:List Int} (hl:ns.length<=n) (hS:SqL K H a (ns.map V.int)):spU K (bXk n) [.ref a] H (λv _=>v=.bl true) λ_ _ _=>False:=by
 refine⟨λ_=>False,λ_=>none,[.lst (ns.map D.int)],λd _=>d=.bl true,⟨λa o e=>(by cases e),λ_ (h:False)=>h.elim⟩,RepL.cons ?_ RepL.nil,⟨ns,rfl,hl,λ_=>rfl,λ_=>rfl⟩,λv d H' S' _ _ h e=>by subst e;exact rbl h⟩
 unfold RepV;refine⟨a,_,rfl,?_,fQh⟩;rcases hS with r | z
 ·exact .inl ⟨λz=>z.elim (λw=>w rfl) id,r⟩
 ·exact .inr (.inr z)
def dMt (rd:D->List D->Sto->DK->Prop) (ck:D->Sto->Prop) (to:ED) (t:AD):ED:=fun Γ S Q=>to Γ S λo S1=>ck o S1/\t Γ S1 λds S2=>rd o ds S2 Q
def MtD (K:Fg) (T:String) (r:V->List V->Hp->VK->Prop) (rd:D->List D->Sto->DK->Prop) (ck:D->Sto->Prop):Prop :=
 (∀ F S H d x,Rp K F S H->RepV K (mt S F) H d x->ck d S->tyV K T x H)/\∀ F S H d ds x vs Q QD,Rp K F S H->RepV K (mt S F) H d x->RepL K (mt S F) H ds vs->rd d ds S QD->Cn K F S H QD Q->r x vs H Q
theorem e_bm {T id:String} {name:Str} {r:V->List V->Hp->VK->Prop} {rd:D->List D->Sto->DK->Prop} {ck:D->Sto->Prop} {o e:Expr} {es:List Expr} {to:ED} {t:AD} {apos cpos:Pos} (M:MtD K T r rd ck)
  (pa:PlainAttrs T) (slot:Slot T name id) (hty:typeOf (.builtin id)=pure (.type "method_descriptor")) (hm:MtR X id r) (ho:PD K X o to) (ha:PAD K X (e::es) t) (hK:X.K=K:=by rfl)
  (hbase:fD o name X.env (eval o X.env)=eval o X.env:=by rfl)
  (hfew:((cD cpos (ay (e::es) X.env)).all (λx=>!x.1) && (jm cpos (gE [] X.env)).all (λx=>x.1.isSome)
   && decide ((e::es).length + ([]:List fX).length + (if ([]:List fX).isEmpty then 0 else 1) < 30))=true:=by rfl)
  (hline:(apos.endLine == cpos.line)=true:=by rfl) (hs:ay (e::es) X.env=(false,eval e X.env)::ay es X.env:=by rfl) (hplain:(cD cpos (ay es X.env)).any (·.1)=false:=by rfl) :
  PD K X (.Call (.Attribute o name apos) (e::es) [] cpos) (dMt rd ck to t):=by
 subst hK;exact .of (fZw pa slot hty hm ho.o ha.o hbase hfew hline hs hplain) fun σ H Q J=>J.el λF S Γ QD r g q c =>
  ⟨F,S,Γ,_,r,g,q,λv d H1 G z B v1 ⟨U,R⟩=>⟨M.1 F G H1 d v B v1 U,F,G,Γ,_,B,g.ext z,R,λL ds H2 Y j N v2 O=>M.2 F Y H2 d ds v L Q QD N (v1.ext j) v2 O (Cn.shift c (z.trans j))⟩⟩
def ckL (d:D) (S:Sto):Prop:=match d with
 | .ref a=>∃ xs,S a=some (.lst xs)
 | _=>False
theorem ty_L {F:Am} {S:Sto} {H:Hp} {d:D} {x:V} (r:Rp K F S H) (h:RepV K (mt S F) H d x) (c:ckL d S):tyV K "list" x H:=by
 cases d with
 | ref a =>
  obtain⟨xs,j⟩:=c;rw[rref h];obtain⟨us,q,_⟩:=r.obj a _ j;exact .inl ⟨rfl,us,SqL.of q⟩
 | _=>exact c.elim
theorem Cn.write {F:Am} {S:Sto} {H:Hp} {QD:DK} {Q:VK} (c:Cn K F S H QD Q) (r:Rp K F S H) {a:Addr} {xs ys:List D} {us ws:List V} (hS:S a=some (.lst xs)) (l:RepL K (mt S F) H ys ws) {d:D} {v:V} (hv:RepV K (mt S F) H d v) (q:QD d (supd S a (.lst ys))):Q v (upd H a (.lst ws)):=by
 have j:S a≠none:=by rw[hS];exact λz=>by cases z
 have x:Ext S H (supd S a (.lst ys)) (upd H a (.lst ws)):=Ext.write j;exact c v d _ _ x (r.write j ⟨ws,aQg,l.ext x⟩) (hv.ext x) q
def appD:D->List D->Sto->DK->Prop:=λo ds S Q=>match o,ds with
 | .ref a,[y]=>∃ xs,S a=some (.lst xs)/\xs.length < sizeLine/\Q .non (supd S a (.lst (xs++[y])))
 | _,_=>False
theorem fQj:MtD K "list" cX5 appD ckL:=⟨λF S H d x r h c=>ty_L r h c,λF S H d ds x J Q QD r h l q c=>by
 match d,ds,q with
 | .ref a,[y],⟨xs,z,D,q⟩ =>
  obtain⟨v,rfl,B⟩:=l.one;obtain⟨us,G,j⟩:=r.obj a _ z;rw[rref h];exact⟨a,us,v,rfl,rfl,G,by rw[j.length];exact D,c.write r (us:=us) z (j.app (RepL.cons B RepL.nil)) (by unfold RepV;rfl) q⟩⟩
def cJn:D->List D->Sto->DK->Prop:=λo ds S Q=>match o,ds with
 | .ref a,[.int i]=>∃ xs j y,S a=some (.lst xs)/\i=(j:Nat)/\(j:Nat) < 2 ^ 63/\xs[(j:Nat)]?=some y/\Q y (supd S a (.lst (xs.eraseIdx j)))
 | _,_=>False
theorem dZh:MtD K "list" dXb cJn ckL:=⟨λF S H d x r h c=>ty_L r h c,λF S H d ds x U Q QD r h l q c=>by
 match d,ds,q with
 | .ref a,[.int i],⟨xs,j,y,D,hi,R,L,q⟩ =>
  obtain⟨v,rfl,J⟩:=l.one;obtain⟨us,N,B⟩:=r.obj a _ D;obtain⟨z,e1,G⟩:=B.get L;rw[rref h,rint J];have O:j < us.length:=by
   rcases Nat.lt_or_ge j us.length with z | z
   ·exact z
   ·rw[bu z] at e1;cases e1
  have e2:seqIndex? i us.length=some j:=by
   subst hi
   have:ixN us.length (j:Int)=some j:=by unfold ixN;rw[if_pos (by lia),if_pos (by lia),bR]
   exact(bJ4 this).1
  exact⟨a,us,i,j,z,rfl,rfl,N,by lia,by subst hi;exact_mod_cast R,e2,e1,c.write r (us:=us) D (B.erase j) G q⟩⟩
theorem dZi {o e:Expr} {to:ED} {t:AD} {apos cpos:Pos} (ho:PD K X o to) (ha:PAD K X [e] t) (hK:X.K=K:=by rfl)
  (hbase:fD o "append" X.env (eval o X.env)=eval o X.env:=by rfl)
  (hfew:((cD cpos (ay [e] X.env)).all (λx=>!x.1) && (jm cpos (gE [] X.env)).all (λx=>x.1.isSome)
   && decide (([e]:List Expr).length + ([]:List fX).length + (if ([]:List fX).isEmpty then 0 else 1) < 30))=true:=by rfl)
  (hline:(apos.endLine == cpos.line)=true:=by rfl) (hs:ay [e] X.env=(false,eval e X.env)::ay [] X.env:=by rfl) (hplain:(cD cpos (ay [] X.env)).any (·.1)=false:=by rfl) :
  PD K X (.Call (.Attribute o "append" apos) [e] [] cpos) (dMt appD ckL to t):=e_bm fQj eJ PySem.F.slot_list_append PySem.F.type_list_append bX4 ho ha hK hbase hfew hline hs hplain
theorem cJo {o e:Expr} {to:ED} {t:AD} {apos cpos:Pos} (ho:PD K X o to) (ha:PAD K X [e] t) (hK:X.K=K:=by rfl)
  (hbase:fD o "pop" X.env (eval o X.env)=eval o X.env:=by rfl)
  (hfew:((cD cpos (ay [e] X.env)).all (λx=>!x.1) && (jm cpos (gE [] X.env)).all (λx=>x.1.isSome)
   && decide (([e]:List Expr).length + ([]:List fX).length + (if ([]:List fX).isEmpty then 0 else 1) < 30))=true:=by rfl)
  (hline:(apos.endLine == cpos.line)=true:=by rfl) (hs:ay [e] X.env=(false,eval e X.env)::ay [] X.env:=by rfl) (hplain:(cD cpos (ay [] X.env)).any (·.1)=false:=by rfl) :
  PD K X (.Call (.Attribute o "pop" apos) [e] [] cpos) (dMt cJn ckL to t):=e_bm dZh eJ PySem.F.slot_list_pop PySem.F.type_list_pop dQq ho ha hK hbase hfew hline hs hplain
end
end L2
set_option maxHeartbeats 1000000
namespace L2
open PySem PySem.Spec PyProof.Rows
def leS (a b:Str):Bool:=!HT.ltS b a
def leT (a b:List Str):Bool:=!HT.lexS b a
theorem bZl:∀ a:List Str,HT.lexS a a=false
 | []=>rfl
 | x::xs=>by rw[HT.lexS_cons,if_pos rfl,bZl xs]
theorem fQk (a b c:Str) (h:leS a b=true) (h':leS b c=true):leS a c=true:=by
 unfold leS at *
 rw[bT] at *
 cases e:HT.ltS c a with
 | false=>rfl
 | true =>
  by_cases j:b=a
  ·subst j;rw[h'] at e;cases e
  ·have:=HT.ltS_tr e (HT.ltS_tot h j)
   rw[h'] at this;cases this
theorem eZ2 (a b:Str):(leS a b || leS b a)=true:=by
 unfold leS;cases e:HT.ltS b a with
 | false=>rfl
 | true=>rw[HT.ltS_as e];rfl
theorem dZj {a b:Str} (h:leS a b=true) (h':leS b a=true):a=b:=by
 unfold leS at *
 rw[bT] at *
 exact aJ λn=>by
  have:=HT.ltS_tot h (λz=>n z.symm)
  rw[h'] at this;cases this
theorem fQl (a b c:List Str) (h:leT a b=true) (h':leT b c=true):leT a c=true:=by
 unfold leT at *
 rw[bT] at *
 cases e:HT.lexS c a with
 | false=>rfl
 | true =>
  by_cases j:b=a
  ·subst j;rw[h'] at e;cases e
  ·have:=HT.lexS_tr e (HT.lexS_tot h j)
   rw[h'] at this;cases this
theorem eZ3 (a b:List Str):(leT a b || leT b a)=true:=by
 unfold leT;cases e:HT.lexS b a with
 | false=>rfl
 | true=>rw[HT.lexS_as e];rfl
theorem dZk {a b:List Str} (h:leT a b=true) (h':leT b a=true):a=b:=by
 unfold leT at *
 rw[bT] at *
 exact aJ λn=>by
  have:=HT.lexS_tot h (λz=>n z.symm)
  rw[h'] at this;cases this
def srS (l:List Str):List Str:=l.mergeSort leS
def srT (l:List (List Str)):List (List Str):=l.mergeSort leT
def srI (l:List Int):List Int:=l.mergeSort λa b=>decide (a<=b)
theorem aZc (l:List Str):(srS l).Perm l:=gN _ _
theorem aQy (l:List (List Str)):(srT l).Perm l:=gN _ _
theorem dZl (l:List Int):(srI l).Perm l:=gN _ _
theorem bXl (l:List Str):(srS l).Pairwise λa b=>leS a b=true:=fS fQk eZ2 l
theorem cJp (l:List (List Str)):(srT l).Pairwise λa b=>leT a b=true:=fS fQl eZ3 l
theorem fQm (l:List Int):(srI l).Pairwise λa b=>decide (a<=b)=true:=fS (le:=λa b=>decide (a<=b)) (λa b c h h'=>decide_eq_true (Int.le_trans (of_decide_eq_true h) (of_decide_eq_true h'))) (λa b=>by
 rcases Int.le_total a b with h | h
 ·rw[decide_eq_true h];rfl
 ·rw[decide_eq_true h,Bool.or_true]) l
theorem fQn {l out:List Str} (p:out.Perm l) (h:out.Pairwise λa b=>HT.ltS b a=false):out=srS l :=
 (p.trans (aZc l).symm).eq_of_pairwise (λ_ _ _ _ h h'=>dZj h h') (h.imp λh=>by unfold leS;rw[h];rfl) (bXl l)
theorem eZ4 {l out:List (List Str)} (p:out.Perm l) (h:out.Pairwise λa b=>HT.lexS b a=false):out=srT l :=
 (p.trans (aQy l).symm).eq_of_pairwise (λ_ _ _ _ h h'=>dZk h h') (h.imp λh=>by unfold leT;rw[h];rfl) (cJp l)
theorem fQo {l out:List Int} (p:out.Perm l) (h:out.Pairwise (·<=·)):out=srI l :=
 (p.trans (dZl l).symm).eq_of_pairwise (λ_ _ _ _ h h'=>Int.le_antisymm (of_decide_eq_true h) (of_decide_eq_true h')) (h.imp λh=>decide_eq_true h) (fQm l)
section
variable {X:Cx} {K:Fg} {pos:Pos} {k:Nat} {e:Expr} {t:AD} {p:Pos}
theorem cJq {M:Am} {H:Hp}:∀ {as:List Int} {xs:List V},RepL K M H (as.map D.int) xs->xs=as.map V.int
 | [],xs,h=>by rw[dP] at h;unfold RepL at h;exact h
 | a::as,xs,h=>by
  rw[bi] at h;unfold RepL at h;obtain⟨v,j,rfl,r,l⟩:=h;unfold RepV at r;rw[r,cJq l];rfl
theorem cJr {M:Am} {H:Hp}:∀ {as:List Int},RepL K M H (as.map D.int) (as.map V.int)
 | []=>RepL.nil
 | a::as=>RepL.cons (by unfold RepV;rfl) cJr
theorem cJs {M:Am} {H:Hp}:∀ {as:List Str} {xs:List V},RepL K M H (as.map D.str) xs->xs=as.map V.str
 | [],xs,h=>by rw[dP] at h;unfold RepL at h;exact h
 | a::as,xs,h=>by
  rw[bi] at h;unfold RepL at h;obtain⟨v,j,rfl,r,l⟩:=h;unfold RepV at r;rw[r,cJs l];rfl
theorem cJt {M:Am} {H:Hp}:∀ {as:List Str},RepL K M H (as.map D.str) (as.map V.str)
 | []=>RepL.nil
 | a::as=>RepL.cons (by unfold RepV;rfl) cJt
def keyD:Key->D
 | .inl i=>.int i
 | .inr x=>.str x
def srcIs (S:Sto) (d:D) (xs:List D):Prop:=match d with
 | .tup ys=>xs=ys
 | .lst ys=>xs=ys
 | .ref a=>S a=some (.lst xs)\/∃ kvs,S a=some (.dk kvs)/\xs=kvs.map λp=>keyD p.1
 | _=>False
theorem cJu {M:Am} {H:Hp}:∀ {ks:List (Key × V)} {kvs:List (Key × D)},bb (λ(p:Key × V) (q:Key × D)=>p.1=q.1/\RepV K M H q.2 p.2) ks kvs->RepL K M H (kvs.map λp=>keyD p.1) (ks.map λp=>kV p.1)
 | _,_,.nil=>RepL.nil
 | _,_,.cons (a:=a) (b:=b) h l=>by
  refine RepL.cons ?_ (cJu l);show RepV K M H (keyD b.1) (kV a.1);rw[h.1];cases b.1 <;> (unfold keyD kV RepV;rfl)
theorem srcIs.src {F:Am} {S:Sto} {H:Hp} (r:Rp K F S H) {d:D} {v:V} {xs:List D} (h:RepV K (mt S F) H d v) (l:srcIs S d xs):∃ us,Src K H v us/\RepL K (mt S F) H xs us:=by
 cases d with
 | tup ys=>cases l;obtain⟨a,us,rfl,sq,l⟩:=tup.st h;exact⟨us,⟨a,rfl,.inr (.inl sq)⟩,l⟩
 | lst ys=>cases l;obtain⟨a,us,rfl,sq,l⟩:=lsIs.sl r h (show lsIs S (.lst xs) xs from rfl);exact⟨us,⟨a,rfl,.inl sq⟩,l⟩
 | ref a =>
  rw[rref h];rcases l with l | ⟨z,l,rfl⟩
  ·obtain⟨us,q,j⟩:=r.obj a _ l;exact⟨us,⟨a,rfl,.inl (SqL.of q)⟩,j⟩
  ·obtain⟨B,q,j⟩:=r.obj a _ l;exact⟨_,⟨a,rfl,.inr (.inr ⟨B,q,rfl⟩)⟩,cJu j⟩
 | _=>exact l.elim
def tupS (t:List Str):D:=.tup (t.map D.str)
def srtD (b:Bool):RCD:=λds S Q=>match ds with
 | [d]=>(∃ ss:List Str,srcIs S d (ss.map D.str)/\newL b ((srS ss).map D.str) S Q)\/(∃ ns:List Int,srcIs S d (ns.map D.int)/\newL b ((srI ns).map D.int) S Q) \/
  ∃ ts:List (List Str),srcIs S d (ts.map tupS)/\newL b ((srT ts).map tupS) S Q
 | _=>False
def fXg (K:Fg):List V->Hp->VK->Prop:=λxs H Q=>fQa K xs H Q\/fQb K xs H Q\/fQc K xs H Q
theorem bJo {S:Sto} {F:Am} {H:Hp}:∀ {ts:List (List Str)} {us:List V},RepL K (mt S F) H (ts.map tupS) us->bb (dT K dS H) us ts
 | [],us,h=>by rw[dP] at h;unfold RepL at h;subst h;exact .nil
 | a::as,xs,h=>by
  rw[bi] at h;unfold RepL at h;obtain⟨v,j,rfl,r,l⟩:=h;exact .cons (bJk r) (bJo l)
theorem dXx {M:Am} {H:Hp} {ds:List D} {us:List V} (l:RepL K M H ds us):∀ (idx:List Nat),(∀ i∈idx,i < us.length)->RepL K M H (idx.map λi=>ds.getD i .non) (idx.map λi=>us.getD i .non)
 | [],_=>RepL.nil
 | i::idx,h=>by
  have hi:=h i ao;refine RepL.cons ?_ (dXx l idx λj q=>h j (aq _ q));obtain⟨d,z,rd⟩:=l.get' (af hi);show RepV K M H (ds.getD i .non) (us.getD i .non);rw[ah,ah,z,af hi];exact rd
theorem fQp {b:Bool}:bZi K (fXg K) (srtD b):=by
 intro F S H ds Y Q QD r l h c
 match ds,h with
 | [d],h =>
  obtain⟨v,rfl,G⟩:=l.one;rcases h with⟨ss,h1,q⟩ | ⟨ss,h1,q⟩ | ⟨ts,h1,q⟩
  ·obtain⟨us,z,j⟩:=h1.src r G;rw[cJs j] at z;exact .inl ⟨v,ss,rfl,z,λp out B L J=>by
    rw[fQn L J];exact c.new r B cJt q⟩
  ·obtain⟨us,z,j⟩:=h1.src r G;rw[cJq j] at z;exact .inr (.inl ⟨v,ss,rfl,z,λp out B L J=>by
    rw[fQo L J];exact c.new r B cJr q⟩)
  ·obtain⟨us,z,j⟩:=h1.src r G;refine .inr (.inr ⟨v,us,ts,rfl,z,bJo j,λp idx B U R O=>c.new r B ?_ q⟩);have hl:=j.length;rw[aj] at hl;have D:∀ i∈idx,i < us.length:=λi hi=>aP.mp (U.mem_iff.mp hi)
   have:=dXx j idx D
   rw[<- eZ4 O R,bd];have e:(idx.map λi=>(ts.map tupS).getD i .non)=idx.map (tupS ∘ λi=>ts.getD i []):=fx λi hi=>by
    have N:i < ts.length:=by have:=D i hi;omega
    show(ts.map tupS).getD i .non=tupS (ts.getD i []);rw[ah,ah,ba,af N]
    rfl
   rw[<- e];exact this
theorem aQv {b:Bool} (hr:Room k X.A) (hg:Gl X "sorted") (hm:X.mg "sorted" = none) (ha:PAD K X [e] t) (hK:X.K=K:=by rfl) (hc:X.calm=true:=by rfl) (he:ay [e] X.env=(false,eval e X.env)::ay [] X.env:=by rfl) (hpl:(cD pos (ay [] X.env)).any (·.1)=false:=by rfl):PD K X (.Call (.Name "sorted" p) [e] [] pos) (dCB (srtD b) t):=aXs ((cJi hK hc).or ((cJj hK hc).or (cJk (lt10 hr) hK hc))) fQp hg hm aJr ha (by decide) (by decide) he hpl
def dkey:D->Option Key
 | .int i=>some (.inl i)
 | .str x=>some (.inr x)
 | _=>none
theorem dZm {M:Am} {H:Hp} {d:D} {v:V} {key:Key} (h:RepV K M H d v) (e:dkey d=some key):v=kV key:=by
 cases d <;> first | (cases e;unfold RepV at h;exact h) | cases e
end
end L2
set_option maxHeartbeats 4000000
namespace L2
open PySem PySem.Spec PyProof.Rows
theorem md {a b:Int} (h:0 < b):0<=a % b/\a % b < b:=⟨Int.emod_nonneg _ (by lia),Int.emod_lt_of_pos _ h⟩
theorem aJi {g:GD} {tt:TD} {tb:BD} {G:Sto->Prop} {Γ0:Gm} {xs acc:List D} {S:Sto} {Q:List D->Sto->Prop} (I:Nat->List D->Sto->Prop) (h0:I 0 acc S)
  (hs:∀ i x acc S (N:List D->Sto->Prop),xs[i]?=some x->I i acc S->(∀ acc' S',I (i + 1) acc' S'->N acc' S')->G S/\g x Γ0 S fun Γ2 S2=>tt Γ2 S2 λb S3=>if b=true then tb Γ2 S3 acc N else N acc S3)
  (hd:∀ acc S,I xs.length acc S->G S/\Q acc S):aX1 g tt tb G Γ0 xs acc S Q:=by
 have gen:∀ n i acc S,i + n=xs.length->I i acc S->aX1 g tt tb G Γ0 (xs.drop i) acc S Q:=by
  intro n
  induction n with
  | zero =>
   intro i acc S hi h;have e:i=xs.length:=by lia
   subst e;rw[gz];exact hd acc S h
  | succ n q =>
   intro i acc S hi h;have j:i < xs.length:=by lia
   rw[aXl j];exact hs i xs[i] acc S (λacc' z=>aX1 g tt tb G Γ0 (xs.drop (i + 1)) acc' z Q) (af j) h λacc' S' h'=>q (i + 1) acc' S' (by lia) h'
 simpa using gen xs.length 0 acc S (by lia) h0
theorem bZm {g:GD} {tb:SD} {G:Sto->Prop} {E:EndsD} {xs:List D} {Γ:Gm} {S:Sto} (I:Nat->Gm->Sto->Prop) (h0:I 0 Γ S)
  (hs:∀ i x Γ S (N:Gm->Sto->Prop),xs[i]?=some x->I i Γ S->(∀ Γ' S',I (i + 1) Γ' S'->N Γ' S')->G S/\g x Γ S fun Γ2 S2=>tb { E with nx:=N,ct:=N,bk:=E.nx } Γ2 S2)
  (hd:∀ Γ S,I xs.length Γ S->G S/\E.nx Γ S):forD g tb G E xs Γ S:=by
 have gen:∀ n i Γ S,i + n=xs.length->I i Γ S->forD g tb G E (xs.drop i) Γ S:=by
  intro n
  induction n with
  | zero =>
   intro i Γ S hi h;have e:i=xs.length:=by lia
   subst e;rw[gz];exact hd Γ S h
  | succ n q =>
   intro i Γ S hi h;have j:i < xs.length:=by lia
   rw[aXl j];exact hs i xs[i] Γ S (forD g tb G E (xs.drop (i + 1))) (af j) h fun Γ' S' h'=>q (i + 1) Γ' S' (by lia) h'
 simpa using gen xs.length 0 Γ S (by lia) h0
theorem aQp {α:Type} {i:Nat} {te:ED} {Γ0:Gm} {S:Sto} {Q:List D->Sto->Prop} {enc:α->D} {f:α->D} {xs:List α} {acc:List D} (h:∀ x∈xs,∀ Q:DK,Q (f x) S->te (Γ0.set i (some (enc x))) S Q) (hn:acc.length + xs.length<=sizeLine)
  (q:Q (acc++xs.map f) S):aX1 (aZj i) dYes (bZj te) (λ_=>True) Γ0 (xs.map enc) acc S Q:=by
 induction xs generalizing acc with
 | nil=>exact⟨trivial,by simpa using q⟩
 | cons x xs z =>
  refine⟨trivial,?_⟩;show bZj te (Γ0.set i (some (enc x))) S acc (λj G=>aX1 (aZj i) dYes (bZj te) (λ_=>True) Γ0 (xs.map enc) j G Q);refine h x ao _ ⟨by simp at hn;lia,z (λy B=>h y (aq _ B)) (by simp at hn ⊢;lia) (by simpa using q)⟩
theorem aZr {α:Type} {i:Nat} {tt:TD} {te:ED} {Γ0:Gm} {S:Sto} {Q:List D->Sto->Prop} {enc:α->D} {p:α->Bool} {f:α->D} {xs:List α} {acc:List D} (ht:∀ x∈xs,∀ Q:Bool->Sto->Prop,Q (p x) S->tt (Γ0.set i (some (enc x))) S Q) (h:∀ x∈xs,p x=true->∀ Q:DK,Q (f x) S->te (Γ0.set i (some (enc x))) S Q) (hn:acc.length + xs.length<=sizeLine)
  (q:Q (acc++(xs.filter p).map f) S):aX1 (aZj i) tt (bZj te) (λ_=>True) Γ0 (xs.map enc) acc S Q:=by
 induction xs generalizing acc with
 | nil=>exact⟨trivial,by simpa using q⟩
 | cons x xs z =>
  refine⟨trivial,?_⟩;show tt (Γ0.set i (some (enc x))) S _;refine ht x ao _ ?_;cases hp:p x with
  | true =>
   rw[if_pos rfl];refine h x ao hp _ ⟨by simp at hn;lia,z (λy j=>ht y (aq _ j)) (λy j=>h y (aq _ j)) (by simp at hn ⊢;lia) ?_⟩
   rw[cN,hp] at q;simpa using q
  | false =>
   rw[if_neg (by simp)]
   refine z (λy j=>ht y (aq _ j)) (λy j=>h y (aq _ j)) (by simp at hn ⊢;lia) ?_
   rw[cN,hp] at q;simpa using q
def sg (c:Nat):Str:=⟨#[c]⟩
theorem dZn {α:Type} (f:α->D) (xs:List α) (lo hi:Option Int):cutD (xs.map f) lo hi=((xs.drop (HT.sIx xs.length 0 lo)).take (HT.sIx xs.length xs.length hi - HT.sIx xs.length 0 lo)).map f:=by
 unfold cutD;rw[aj,List.map_take,List.map_drop]
theorem eZ5 (n:Nat):rngD 0 n=(aT n).map λi=>.int (i:Nat):=by
 apply d8;intro i
 by_cases h:i < n
 ·have h1:i < (rngD 0 n).length:=by rw[aX7];exact h
  obtain⟨_,e⟩:=aJh n 0 i _ (af h1);rw[af h1,e,ba,gM h];simp
 ·rw[bu (by rw[aX7];lia),bu (by simp;lia)]
theorem cJv {n i:Nat} {x:D} (h:(rngD 0 n)[i]?=some x):i < n/\x=.int (i:Nat):=by
 obtain⟨h1,h2⟩:=aJh n 0 i x h;exact⟨h1,by rw[h2,Int.zero_add]⟩
def Off (a:Addr) (S S':Sto):Prop:=∀ b,b≠a->S' b=S b
theorem Off.trans {a:Addr} {S S1 S2:Sto} (h:Off a S S1) (h':Off a S1 S2):Off a S S2:=λb j=>(h' b j).trans (h b j)
def Itz (K:Fg) (a b:Addr):It:=⟨λi H=>∃ xs ys x y,SqL K H a xs/\SqL K H b ys/\xs[i]?=some x/\ys[i]?=some y,λi H x H'=>∃ p y z,H p=none/\x=.ref p/\H'=upd H p (.tup [y,z])/\(∀ xs,SqL K H a xs->xs[i]?=some y)/\∀ ys,SqL K H b ys->ys[i]?=some z,
 λi H=>∃ xs ys,SqL K H a xs/\SqL K H b ys/\(xs.length<=i\/ys.length<=i)⟩
def zst (z TI TO i1 i2 a b:Addr) (i:Nat) (h:a9):Prop:=IsZip h z TI TO .none/\IsPair h TI (.ref i1) (.ref i2)/\(∃ u v,IsPair h TO u v)/\h.IsListIter i1 a i/\h.IsListIter i2 b i
theorem cJw {z TI TO i1 i2 a b c:Addr} {i:Nat} {h:a9} (st:zst z TI TO i1 i2 a b i h) (hc:c∈[z,TI,TO,i1,i2]):∃ o,h.get? c=some o/\∀ v,o.data≠.cell v:=by
 obtain⟨J,G,⟨u,v,D⟩,⟨R,q,N,B⟩,⟨O,j,L,hd2⟩⟩:=st;simp only[aB,eG,or_false] at hc;rcases hc with rfl | rfl | rfl | rfl | rfl
 ·exact⟨_,J,λv z=>by cases z⟩
 ·exact⟨_,G,λv z=>by cases z⟩
 ·exact⟨_,D,λv z=>by cases z⟩
 ·exact⟨_,q,λv z=>by rw[B] at z;cases z⟩
 ·exact⟨_,j,λv z=>by rw[hd2] at z;cases z⟩
theorem dZo {P:aC} {w:aO} {K:Fg} {elts:List Expr} {x1:Nat} {pos:Pos} (z TI TO i1 i2 a b:Addr) (D:ZipApart z TI TO i1 i2 a b):Turn P w K (.Tuple elts x1 pos) (Itz K a b) [z,TI,TO,i1,i2] z (zst z TI TO i1 i2 a b) where
 mem:=by simp
 obj:=λi h st c R=>cJw st R
 keep:=λi h h' st k=>by
  obtain⟨hz,L,⟨u,v,O⟩,⟨o1,ho1,r1⟩,⟨o2,ho2,r2⟩⟩:=st;exact⟨k z (by simp) _ hz,k TI (by simp) _ L,⟨u,v,k TO (by simp) _ O⟩,⟨o1,k i1 (by simp) _ ho1,r1⟩,⟨o2,k i2 (by simp) _ ho2,r2⟩⟩
 item:=by
  intro X hP hw hK R i pins s σ H E I hf st hg;subst hP hw hK;have sto:=λc R=>cJw (c:=c) st R;obtain⟨xs,ys,x,y,Y,U,hx,hy⟩:=hg;obtain⟨its,rv,p1,hz1⟩:=I.list Y;obtain⟨jts,rw',p2,hz2⟩:=I.list U;obtain⟨u,hu,ru⟩:=rv.get hx;obtain⟨v,hv,rv'⟩:=rw'.get hy;obtain⟨hz,L,⟨t1,t2,O⟩,st1,st2⟩:=st;refine wpAny_pyNext_zip_item D hz L O st1 st2 p1.isList p2.isList (by simpa using hu) (by simpa using hv) λh' a1 a2 a3 a4 a5 a6 hk=>⟨_,rfl,?_⟩
  refine wpAny_letOwnedTupleGo_zip a1 λh2 hz2' J=>?_;have N:∀ c o,c∉[z,TI,TO,i1,i2]->s.heap.get? c=some o->h2.get? c=some o:=λc o n g=>(J.2 c (by simp at n;exact n.1)).trans (hk c o (by simp at n;exact n.1) (by simp at n;exact n.2.2.1) (by simp at n;exact n.2.2.2.1) (by simp at n;exact n.2.2.2.2) g)
  have hzl:z < s.heap.objs.size:=az hz;have j:H s.heap.objs.size=none:=I.hok.fresh (Nat.le_refl _);have nT:∀ c o,s.heap.get? c=some o->c≠s.heap.objs.size:=λc o g=>Nat.ne_of_lt (az g);have nH:∀ c u,H c=some u->c∉[z,TI,TO,i1,i2]:=λc u g R=>by have:=(hf c R).1;rw[g] at this;cases this
  have tupT:h2.get? s.heap.objs.size=some { cls:=.type "tuple",data:=.seq #[u,v] }:=(J.2 _ (Nat.ne_of_gt hzl)).trans a5;have hok:HOk X.prog X.w (upd H s.heap.objs.size (.tup [x,y])) h2:=λc ob g=>by
   by_cases B:c=s.heap.objs.size
   ·subst B;rw[aQg] at g;cases g;refine⟨by rw[be];show 2<=_;decide,[u,v],.cons ru (.cons rv' .nil),⟨_,tupT,rfl,0,rfl⟩,λo e=>by rw[tupT] at e;cases e;rfl⟩
   ·rw[upd_ne B] at g;refine(I.hok c ob g).stay (λe w' G q=>?_) (λe q=>?_) λe ys q=>?_
    ·rcases G with rfl | G
     ·exact N _ _ (nH _ _ g) q
     ·exact N _ _ (nH _ _ G) q
    ·rw[upd_ne (aQd q j)];exact q
    ·rw[upd_ne (aQd q j)];exact q
  have un:Un (frs X.stack) [z,TI,TO,i1,i2] H (upd H s.heap.objs.size (.tup [x,y])) s.heap h2 :=
   ⟨λc o g _ _ B=>N c o B g,λc o g _ _ B=>⟨o.slots,N c o B g⟩,λc o g n _=>by rw[upd_ne (nT c o g)];exact n,λc o g B=>⟨o,N c o B g⟩,
    λc ys g=>by rw[upd_ne (aQd g j)];exact g,λc o v g=>by rw[upd_ne (aQd g j)];exact g,λc ps g=>⟨#[],by rw[upd_ne (aQd g j),g];simp⟩⟩
  have I2:Inv X pins σ (upd H s.heap.objs.size (.tup [x,y])) { s with heap:=h2 }:=I.call' (s':={ s with heap:=h2 }) rfl un hok I.bare λc B=>by
   have Z:=hf c B;exact⟨Z.2.2.2.1,Z.2.1,Z.2.2.2.2.1,Z.2.2.2.2.2⟩
  refine⟨.ref s.heap.objs.size,_,I2,rfl,⟨_,x,y,j,rfl,rfl,λys hy=>by rw[I.list_inj hy Y];exact hx,λys hy'=>by rw[I.list_inj hy' U];exact hy⟩,⟨hz2',?_,⟨u,v,?_⟩,?_,?_⟩,λc B=>?_⟩
  ·exact(J.2 TI D.TIz).trans (hk TI _ D.TIz D.TITO D.TIi1 D.TIi2 L)
  ·exact(J.2 TO D.TOz).trans a2
  ·obtain⟨o,g,r⟩:=a3;exact⟨o,(J.2 i1 D.i1z).trans g,r⟩
  ·obtain⟨o,g,r⟩:=a4;exact⟨o,(J.2 i2 D.i2z).trans g,r⟩
  ·obtain⟨o,g,_⟩:=sto c B;rw[upd_ne (Nat.ne_of_lt (az g))];exact(hf c B).1
 done:=by
  intro X hP hw hK R i pins s σ H E I hf st hg;subst hP hw hK;obtain⟨xs,ys,Y,U,hx⟩:=hg;obtain⟨its,rv,p1,hz1⟩:=I.list Y;obtain⟨jts,rw',p2,hz2⟩:=I.list U;obtain⟨hz,L,⟨t1,t2,O⟩,st1,st2⟩:=st;have hh:X.A.in1.handled=none:=by have:=I.ok.hd R;simp[this]
  have l1:=rv.length;have l2:=rw'.length;refine wpAny_pyNext_zip_end (hh) D hz L O st1 st2 p1.isList p2.isList (by rcases hx with h | h;exact .inl (by simp;lia);exact .inr (by simp;lia)) λh' hk=>⟨rfl,?_⟩
  have N:∀ c o,c∉[z,TI,TO,i1,i2]->s.heap.get? c=some o->h'.get? c=some o:=λc o n g=>hk c o (by simp at n;exact n.1) (by simp at n;exact n.2.2.1) (by simp at n;exact n.2.2.2.1) (by simp at n;exact n.2.2.2.2) g
  have nH:∀ c u,H c=some u->c∉[z,TI,TO,i1,i2]:=λc u g R=>by have:=(hf c R).1;rw[g] at this;cases this
  have hok:HOk X.prog X.w H h':=λc ob g=>(I.hok c ob g).stay (λe w' G q=>by
    rcases G with rfl | G
    ·exact N _ _ (nH _ _ g) q
    ·exact N _ _ (nH _ _ G) q) (λe q=>q) λe ys q=>q
  have un:Un (frs X.stack) [z,TI,TO,i1,i2] H H s.heap h' :=
   ⟨λc o g _ _ B=>N c o B g,λc o g _ _ B=>⟨o.slots,N c o B g⟩,λc o g n _=>n,λc o g B=>⟨o,N c o B g⟩,λc ys g=>g,λc o v g=>g,λc ps g=>⟨#[],by rw[g];simp⟩⟩
  exact I.call' (s':={ s with heap:=h' }) rfl un hok I.bare λc B=>by
   have Z:=hf c B;exact⟨Z.2.2.2.1,Z.2.1,Z.2.2.2.2.1,Z.2.2.2.2.2⟩
 self:=λA i s Q E st h=>wpAny_pyIter_zip st.1 h
section
variable {X:Cx}
def iZip (K:Fg) (ta:TA):TI:=fun σ H R=>ta σ H λvs H1=>∃ a b,vs=[.ref a,.ref b]/\(∃ xs,SqL K H1 a xs)/\(∃ ys,SqL K H1 b ys)/\R (Itz K a b) H1
theorem fQq {e f:Expr} {ta:TA} {p pos:Pos} {elts:List Expr} {x1:Nat} {tpos:Pos} {K:Fg} (hg:Gl X "zip") (hm:X.mg "zip" = none) (ha:PA X [e,f] ta) (hs:ay [e,f] X.env=[(false,eval e X.env),(false,eval f X.env)]:=by rfl) (hs2:ay [f] X.env=[(false,eval f X.env)]:=by rfl) (hK:X.K=K:=by rfl) :
  PI X (.Tuple elts x1 tpos) (.Call (.Name "zip" p) [e,f] [] pos) (iZip K ta):=by
 subst hK;intro pins s σ H R I h;refine Call_ (ld_blt I hg hm PyProof.Rows.boot_zip (dO (thn (ha pos pins s σ H _ I h) λus s1 ⟨vs,H1,z,r1,q1⟩=>?_) (by rw[hs,hs2]) (by rw[hs2];rfl)))
 obtain⟨a,b,rfl,⟨xs,G⟩,⟨ys,D⟩,q⟩:=q1;cases r1 with
 | cons r rr =>
  cases rr with
  | cons r' rr =>
   cases rr;cases r;cases r';obtain⟨its,rv,pl,B⟩:=z.list G;obtain⟨jts,Z,j,hz'⟩:=z.list D;have L:a < s1.heap.objs.size:=by obtain⟨o,e,_⟩:=id pl.isList;exact az e
   have J:b < s1.heap.objs.size:=by obtain⟨o,e,_⟩:=id j.isList;exact az e
   refine call_zip_2 pl.isList j.isList λh' B O N h1 h2 _ hk=>wpAny_pyIter_zip B ?_;refine⟨s1.heap.objs.size + 4,[s1.heap.objs.size + 4,s1.heap.objs.size + 2,s1.heap.objs.size + 3,s1.heap.objs.size,s1.heap.objs.size + 1],_,_,H1,rfl,z.kept (t':=s1.toks) hk,dZo _ (s1.heap.objs.size + 2) (s1.heap.objs.size + 3) s1.heap.objs.size (s1.heap.objs.size + 1) a b ?_,⟨B,O,⟨_,_,N⟩,h1,h2⟩,λc Y=>?_,q⟩
   ·exact zipApart_new L J
   ·have U:s1.heap.objs.size<=c:=by
     simp only[aB,eG,or_false] at Y;rcases Y with rfl | rfl | rfl | rfl | rfl
     ·exact Nat.le_add_right _ _
     ·exact Nat.le_add_right _ _
     ·exact Nat.le_add_right _ _
     ·exact Nat.le_refl _
     ·exact Nat.le_add_right _ _
    exact z.fpOk U (z.hok.fresh U)
end
section
variable {X:Cx} {K:Fg} {pos:Pos}
def zipD:List D->List D->List D
 | x::xs,y::ys=>.tup [x,y]::zipD xs ys
 | _,_=>[]
theorem bZn:∀ (xs ys:List D) (i:Nat) (d:D),(zipD xs ys)[i]?=some d->∃ x y,xs[i]?=some x/\ys[i]?=some y/\d=.tup [x,y]
 | [],_,i,d,h=>by simp[zipD] at h
 | _::_,[],i,d,h=>by simp[zipD] at h
 | x::xs,y::ys,0,d,h=>by simp[zipD] at h;exact⟨x,y,rfl,rfl,h.symm⟩
 | x::xs,y::ys,i + 1,d,h=>by
  have h':(zipD xs ys)[i]?=some d:=by simpa [zipD] using h
  obtain⟨u,v,h1,h2,e⟩:=bZn xs ys i d h';exact⟨u,v,by simpa using h1,by simpa using h2,e⟩
theorem bZo:∀ (xs ys:List D),(zipD xs ys).length=min xs.length ys.length
 | [],_=>by simp[zipD]
 | _::_,[]=>by simp[zipD]
 | x::xs,y::ys=>by simp[zipD,bZo xs ys]
theorem dZp {F:Am} {S:Sto} {H:Hp} {p:Addr} {x y:V} {d e:D} (r:Rp K F S H) (hp:H p=none) (rx:RepV K (mt S F) H d x) (ry:RepV K (mt S F) H e y):Ext S H S (upd H p (.tup [x,y]))/\Rp K F S (upd H p (.tup [x,y]))/\RepV K (mt S F) (upd H p (.tup [x,y])) (.tup [d,e]) (.ref p):=by
 have z:Ext S H S (upd H p (.tup [x,y])):=Ext.same (aQw hp);refine⟨z,r.same (aQw hp),?_⟩;unfold RepV;exact⟨p,_,rfl,.inl ⟨r.nmt hp,.inl aQg⟩,RepL.cons (rx.ext z) (RepL.cons (ry.ext z) RepL.nil)⟩
theorem eZ6 {F:Am} {S:Sto} {H:Hp} {p q:Addr} {xs ys:List D} {us vs:List V} {G:Sto->Prop} (t:LstAt K (mt S F) H p us) (l:RepL K (mt S F) H xs us) (t':LstAt K (mt S F) H q vs) (l':RepL K (mt S F) H ys vs):ItOk K F S H (Itz K p q) (zipD xs ys) G where
 go:=λZ f Y H2 x J _ i d hd=>by
  obtain⟨e1,e2,h1,h2,rfl⟩:=bZn xs ys i d hd;obtain⟨v1,g1,B⟩:=l.get h1;obtain⟨v2,g2,j⟩:=l'.get h2;have s1:SqL K H2 p us:=(t.keep (x.kpF f)).sq;have s2:SqL K H2 q vs:=(t'.keep (x.kpF f)).sq;refine⟨⟨us,vs,v1,v2,s1,s2,g1,g2⟩,λz H3 ⟨b,y,y',O,R,U,N,L⟩=>?_⟩;subst R;subst U
  have:=N us s1
  rw[g1] at this;cases this
  have:=L vs s2
  rw[g2] at this;cases this;exact dZp J O (B.keep (x.kpF f)) (j.keep (x.kpF f))
 stop:=λZ f Y H2 x J _=>⟨us,vs,(t.keep (x.kpF f)).sq,(t'.keep (x.kpF f)).sq,by rw[bZo,l.length,l'.length];lia⟩
def dZip (ta:AD):ID:=fun Γ S Q=>ta Γ S λds S1=>match ds with
 | [.lst xs,.lst ys]=>Q (zipD xs ys) (λ_=>True) S1
 | _=>False
theorem fQr {e f:Expr} {ta:AD} {p:Pos} {elts:List Expr} {x1:Nat} {tpos:Pos} (hg:Gl X "zip") (hm:X.mg "zip" = none) (ha:PAD K X [e,f] ta) (hs:ay [e,f] X.env=[(false,eval e X.env),(false,eval f X.env)]:=by rfl) (hs2:ay [f] X.env=[(false,eval f X.env)]:=by rfl) (hK:X.K=K:=by rfl) :
  PID K X (.Tuple elts x1 tpos) (.Call (.Name "zip" p) [e,f] [] pos) (dZip ta):=.of (fQq hg hm ha.o hs hs2 hK) fun σ H Q J=>J.el λF S Γ QD r g q c =>
 ⟨F,S,Γ,_,r,g,q,λO ds H1 R x1 L v1 B=>by
  match ds,B with
  | [.lst xs,.lst ys],B =>
   obtain⟨v,w,rfl,G,j⟩:=v1.two;unfold RepV at G j;obtain⟨p,us,rfl,t,l⟩:=G;obtain⟨q,z,rfl,D,N⟩:=j;exact⟨p,q,rfl,⟨us,t.sq⟩,⟨z,D.sq⟩,c _ _ _ _ _ x1 L (eZ6 t l D N) B⟩⟩
end
end L2
set_option maxHeartbeats 1000000
namespace L2
open PySem PySem.Spec PyProof.Rows
section
variable {X:Cx} {K:Fg} {pos:Pos} {k:Nat}
def exrD:D->List D->Sto->DK->Prop:=λo ds S Q=>match o,ds with
 | .ref a,[.ref b]=>∃ xs ys,S a=some (.lst xs)/\S b=some (.lst ys)/\xs.length + ys.length<=sizeLine/\Q .non (supd S a (.lst (xs++ys)))
 | _,_=>False
theorem fQs:MtD K "list" cX6 exrD ckL:=⟨λF S H d x r h c=>ty_L r h c,λF S H d ds x L Q QD r h l q c=>by
 match d,ds,q with
 | .ref a,[.ref b],⟨xs,ys,B,j,G,q⟩ =>
  obtain⟨v,rfl,D⟩:=l.one;obtain⟨us,J,z⟩:=r.obj a _ B;obtain⟨ws,hw,lw⟩:=r.obj b _ j;rw[rref h,rref D];exact⟨a,b,us,ws,rfl,rfl,J,hw,by rw[z.length,lw.length];exact G,c.write r (us:=us) B (z.app lw) (by unfold RepV;rfl) q⟩⟩
theorem dZq {o e:Expr} {to:ED} {t:AD} {apos cpos:Pos} (ho:PD K X o to) (ha:PAD K X [e] t) (hK:X.K=K:=by rfl)
  (hbase:fD o "extend" X.env (eval o X.env)=eval o X.env:=by rfl)
  (hfew:((cD cpos (ay [e] X.env)).all (λx=>!x.1) && (jm cpos (gE [] X.env)).all (λx=>x.1.isSome)
   && decide (([e]:List Expr).length + ([]:List fX).length + (if ([]:List fX).isEmpty then 0 else 1) < 30))=true:=by rfl)
  (hline:(apos.endLine == cpos.line)=true:=by rfl) (hs:ay [e] X.env=(false,eval e X.env)::ay [] X.env:=by rfl) (hplain:(cD cpos (ay [] X.env)).any (·.1)=false:=by rfl) :
  PD K X (.Call (.Attribute o "extend" apos) [e] [] cpos) (dMt exrD ckL to t):=e_bm fQs eJ iC iD cX7 ho ha hK hbase hfew hline hs hplain
end
end L2
set_option maxHeartbeats 4000000
namespace L2
open PySem PySem.Spec PyProof.Rows
section
variable {X:Cx} {K:Fg} {pos:Pos} {k:Nat}
theorem eZ7 {pins:List (Addr × Obj)} {σ:St} {H:Hp} {s:ai} {Q:VK} {xs:List V} {acc:Array ad} {h':a9} {c tk:Nat} (I:Inv X pins σ H s) (hz:xs.length<=sizeLine) (r:Vals xs acc.toList) (hk:∀ b o,s.heap.get? b=some o->h'.get? b=some o)
  (hp:h'.get? s.heap.objs.size=some { cls:=.type "list",dict:=none,data:=.seq acc c,slots:=#[] }) (q:∀ l,H l=none->Q (.ref l) (upd H l (.lst xs))):EP X pins σ Q (.ref s.heap.objs.size) { s with heap:=h',toks:=tk }:=by
 refine⟨.ref s.heap.objs.size,_,I.laid (t':=tk) (o:=.lst xs) hk (Nat.le_refl _) ?_,rfl,q _ (I.hok.fresh (Nat.le_refl _))⟩;exact⟨hz,acc.toList,c,r,by rw[Array.toArray_toList];exact hp⟩
theorem cJx:∀ {xs:List V} {us:List ad},xs.length=us.length->(∀ (i:Nat) (x:V) (u:ad),xs[i]?=some x->us[i]?=some u->RelV x u)->Vals xs us
 | [],[],_,_=>.nil
 | [],_::_,h,_=>by simp at h
 | _::_,[],h,_=>by simp at h
 | x::xs,u::us,h,j=>.cons (j 0 x u rfl rfl) (cJx (by simpa using h) λi y v h1 h2=>j (i + 1) y v (by simpa using h1) (by simpa using h2))
theorem cZm (hc:X.calm=true:=by rfl):CallR X (.type "list") (λxs H Q=>∃ x:Str,xs=[.str x]/\x.length<=1000/\∀ l,H l=none->Q (.ref l) (upd H l (.lst (x.cps.toList.map λc=>.str ⟨#[c]⟩)))):=by
 intro pins s σ H xs us Q I r h;obtain⟨x,rfl,D,q⟩:=h;obtain⟨u,rfl,B⟩:=aX9 r;obtain⟨t,rfl⟩:=B;have hl:x.cps.size<=1000:=D;refine call_list_str (I.ok.hd hc) x t (λh' L acc c J G it=>eZ7 I (by rw[aj,aK,be];lia) ?_ J G q) (by rw[be];lia)
 refine cJx (by rw[aj,aK,aK,it.1]) λi y u h1 h2=>?_
 obtain⟨N,z,j,rfl⟩:=it.2 i u (by rw[<- aM];exact h2)
 rw[ba,aM,j] at h1;cases h1;exact⟨z,rfl⟩
def lsSD (b:Bool):RCD:=λds S Q=>match ds with
 | [.str x]=>x.length<=1000/\newL b (x.cps.toList.map λc=>.str ⟨#[c]⟩) S Q
 | _=>False
theorem cQt {M:Am} {H:Hp}:∀ cs:List Nat,RepL K M H (cs.map λc=>D.str ⟨#[c]⟩) (cs.map λc=>V.str ⟨#[c]⟩)
 | []=>RepL.nil
 | c::cs=>RepL.cons (by unfold RepV;rfl) (cQt cs)
theorem cJy {b:Bool} {e:Expr} {t:AD} {p:Pos} (hg:Gl X "list") (hm:X.mg "list" = none) (ha:PAD K X [e] t) (hc:X.calm=true:=by rfl) (he:ay [e] X.env=(false,eval e X.env)::ay [] X.env:=by rfl) (hpl:(cD pos (ay [] X.env)).any (·.1)=false:=by rfl):PD K X (.Call (.Name "list" p) [e] [] pos) (dCB (lsSD b) t):=aJg (cZm hc) (by
 intro F S H ds D Q QD r l h c
 match ds,h with
 | [.str x],⟨z,q⟩ =>
  obtain⟨v,rfl,j⟩:=l.one;rw[rstr j];exact⟨x,rfl,z,λp B=>c.new r B (cQt _) q⟩) hg hm cXa ha (by decide) (by decide) he hpl
end
section
variable {prog:aC} {w:aO} {A:aY} {E:ad->ai->Prop}
theorem dZr {it l:Addr} {vs:List ad} (hne:l≠it) (n:Nat):∀ (i:Nat) (s:ai) (Q:List ad->ai->Prop),s.heap.IsListIter it l i->s.heap.IsList l vs.toArray->i + n<=vs.length ->
  (∀ h',h'.IsListIter it l (i + n)->dA it s.heap h'->Q ((vs.drop i).take n) { s with heap:=h' })->aD (aF prog w) A (draw (.ref it) n) Q E s:=by
 induction n with
 | zero =>
  intro i s Q hi _ _ q;have j:=q s.heap hi (ip ..);rw[List.take_zero] at j;exact ae j
 | succ n D =>
  intro i s Q hi hl L q;have lt:i < vs.length:=by lia
  show aD _ _ (eV (.ref it) >>= _) Q E s;refine aa (fT (x:=vs[i]) hi hl (by simp[lt]) λa J sa=>aa (bh (D (i + 1) _ _ J (hl.extBut sa.extBut hne) (by lia) λb G z=>ae ?_)))
  have B:=q b (by rw[Nat.add_succ,<- Nat.succ_add];exact G) (sa.trans z)
  rwa [bY lt,List.take_succ_cons] at B
theorem cJz {s:ai} {l:Addr} {vs:List ad} {Q:List ad->ai->Prop} (hh:A.handled=none) (hl:s.heap.IsList l vs.toArray) (q:∀ h',a9.ExtBut s.heap.objs.size s.heap h'->Q vs { s with heap:=h' }):aD (aF prog w) A (unpackItems (.ref l) vs.length none) Q E s:=by
 have old:l≠s.heap.objs.size:=by obtain⟨o,g,_⟩:=id hl;exact Nat.ne_of_lt (az g)
 unfold unpackItems notIterableAtAll;refine aa (aa (gG hl.typeIs F.slot_list_iter.lookup (ae ?_)));rw[if_neg b8];refine aa (bh (d9 hl (aa (bh (dZr old vs.length 0 _ _ ⟨_,ax _ rfl,rfl,rfl⟩ (hl.push _) (by lia) λa z sa=>?_)))))
 have all:(vs.drop 0).take vs.length=vs:=by rw[fZ,dX]
 rw[all,if_neg (by simp)]
 refine aa (bh (gh hh z ((hl.push _).extBut sa.extBut old) (by simp) λb B=>ae ?_))
 exact q b λc o j g=>B c o j (sa.extBut c o j (ag _ g))
end
section
variable {X:Cx} {K:Fg} {pos:Pos}
def gLst (K:Fg) (n:Nat) (t:TGs):TG:=λv σ H Q=>∃ a xs,v=.ref a/\SqL K H a xs/\xs.length=n/\t xs σ H Q
theorem fQt {es:List Expr} {kk:Nat} {t:TGs} {n:Nat} (hc:X.calm=true) (h:PGs X es t) (hn:(dy es X.env).length=n:=by rfl) (hst:(dy es X.env).findIdx? (·.1)=none:=by rfl):PG X (.Tuple es kk pos) (gLst X.K n t):=by
 intro pins s σ H v u Q I r ⟨a,xs,e1,B,hl,hw⟩;subst e1;cases r;obtain⟨its,j,z,D⟩:=I.list B;have hlen:(dy es X.env).length=its.length:=by rw[hn,<- hl,j.length]
 rw[assign_Tuple];refine aa (fA ?_);unfold unpack;rw[hst,hlen];refine aa (bh (cJz (I.ok.hd hc) z.isList λh' q=>?_));exact h pins _ σ H xs _ Q (I.kept (t':=s.toks) λb o e=>q b o (Nat.ne_of_lt (az e)) e) j hw
def fXh (n:Nat) (t:GsD):GD:=λd Γ S Q=>match d with
 | .lst ds=>ds.length=n/\t ds Γ S Q
 | _=>False
theorem fQu {es:List Expr} {kk:Nat} {t:GsD} {n:Nat} (hc:X.calm=true) (h:PGsD K X es t) (hK:X.K=K:=by rfl)
  (hn:(dy es X.env).length=n:=by rfl) (hst:(dy es X.env).findIdx? (·.1)=none:=by rfl):PGD K X (.Tuple es kk pos) (fXh n t) :=
 .of (fQt hc h.o hn hst) λv σ H Q z=>z.el λF S Γ d QD r g j q c=>by
  cases d with
  | lst ds =>
   unfold RepV at j;obtain⟨p,us,rfl,sq,l⟩:=j;exact⟨p,us,rfl,by rw[hK];exact sq.sq,by rw[l.length];exact q.1,F,S,Γ,ds,_,r,g,l,q.2,c⟩
  | _=>exact q.elim
end
end L2
set_option maxHeartbeats 1000000
namespace L2
open PySem PySem.Spec PyProof.Rows
def Its (x:Str):It:=⟨λi _=>i < x.cps.size,λi H v H'=>H'=H/\∃ c,x.cps[i]?=some c/\v=.str ⟨#[c]⟩,λi _=>i=x.cps.size⟩
theorem cQu {P:aC} {w:aO} {K:Fg} {tg:Expr} (x:Str) (t:Tok) (ty:String) (it:Addr) (hty:["enumerate", "zip", "dict_itemiterator", "dict_reverseitemiterator", "odict_iterator", "itertools.zip_longest", "itertools.pairwise"].contains ty=false)
  (W:∀ A:aY,A.handled=none->Walks P w A it [it] [it] x.cps.size (SignAt x) (λi h=>h.IsStrIter it ty x t i)) (hs:∀ (A:aY) (i:Nat) (s:ai) (Q:ad->ai->Prop) (E:ad->ai->Prop),s.heap.IsStrIter it ty x t i->Q (.ref it) s->aD (aF P w) A (pyIter (.ref it)) Q E s) :
  Turn P w K tg (Its x) [it] it (λi h=>h.IsStrIter it ty x t i) where
 mem:=by simp
 obj:=λi h st b j=>by
  have e:b=it:=by simpa using j
  subst e;obtain⟨o,g,c,d⟩:=st;exact⟨o,g,λv z=>by rw[d] at z;cases z⟩
 keep:=λi h h' st k=>by
  obtain⟨o,g,r⟩:=st;exact⟨o,k it (by simp) o g,r⟩
 item:=by
  intro X N hw O L i pins s σ H E I hf st G;subst N hw O;obtain⟨f0,f1,f2,R,f4,f5⟩:=hf it (by simp)
  refine(W X.A (I.ok.hd L)).item i s _ E G st λv h' q U B D=>?_;obtain⟨c,u,J,rfl⟩:=U;have Y:Inv X pins σ H { s with heap:=h',toks:=q }:=I.turned (t':=q) (λb o j e=>D b o (by simpa using j) e) f0 f1 R f4 f5
  obtain⟨o,e,cl,d⟩:=id B;exact⟨_,rfl,dQi (s:={ s with heap:=h',toks:=q }) e cl d hty ⟨.str ⟨#[c]⟩,H,Y,⟨u,rfl⟩,⟨rfl,c,J,rfl⟩,B,λb j=>(hf b j).1⟩⟩
 done:=by
  intro X N hw O L i pins s σ H E I hf st G;subst N hw O;obtain⟨f0,f1,f2,R,f4,f5⟩:=hf it (by simp)
  have e:i=x.cps.size:=G;subst e;exact(W X.A (I.ok.hd L)).done s _ E st λh' q D=>⟨rfl,I.turned (t':=q) (λb o j e=>D b o (by simpa using j) e) f0 f1 R f4 f5⟩
 self:=λA i s Q E st h=>hs A i s Q E st h
section
variable {X:Cx} {tg:Expr}
def iStr (tl:TE):TI:=fun σ H R=>tl σ H λv H1=>∃ x,v=.str x/\R (Its x) H1
theorem fQv {l:Expr} {tl:TE} (hl:PE X l tl):PI X tg l (iStr tl):=by
 intro pins s σ H R I h;refine thn (hl pins s σ H _ I h) λv s1 ⟨y,H1,z,B,x,e,q⟩=>?_;subst e;obtain⟨t,rfl⟩:=B;refine wpAny_pyIter_strU ?_;have G:∀ b∈[s1.heap.objs.size],FpOk X pins H1 b:=λb D=>by
  have e:b=s1.heap.objs.size:=by simpa using D
  subst e;exact z.fpOk (Nat.le_refl _) (z.hok.fresh (Nat.le_refl _))
 refine⟨s1.heap.objs.size,[s1.heap.objs.size],(λi h=>h.IsStrIter s1.heap.objs.size (strIterType x) x t i),_,H1,rfl,z.kept (t':=s1.toks) λb o e=>ag _ e,?_,⟨_,ax _ rfl,rfl,rfl⟩,G,q⟩;unfold strIterType
 split
 ·exact cQu x t _ _ (by decide) (λA j=>Walks.strAscii j _ x t) λA i s Q E st h=>wpAny_pyIter_striter_ascii st h
 ·exact cQu x t _ _ (by decide) (λA j=>Walks.strWide j _ x t) λA i s Q E st h=>wpAny_pyIter_striter_wide st h
end
section
variable {X:Cx} {K:Fg} {pos:Pos}
theorem eZ8 {F:Am} {S:Sto} {H:Hp} {x:Str} {G:Sto->Prop}:ItOk K F S H (Its x) (dZd x) G where
 go:=λJ f D H2 y j _ i d hd=>by
  unfold dZd at hd;rw[ba,dh] at hd;obtain⟨c,hc,rfl⟩:=hd;rw[aM] at hc;have hi:i < x.cps.size:=by
   rcases Nat.lt_or_ge i x.cps.size with z | z
   ·exact z
   ·rw[Array.getElem?_eq_none z] at hc;cases hc
  refine⟨hi,λz N ⟨B,L,hc',q⟩=>?_⟩;subst q;subst B;rw[hc] at hc';cases hc';exact⟨Ext.refl _ _,j,by unfold RepV;rfl⟩
 stop:=λJ f D H2 y j _=>by unfold dZd;rw[aj];exact aK
def fXi (te:ED):ID:=fun Γ S Q=>te Γ S λd S1=>match d with
 | .str x=>Q (dZd x) (λ_=>True) S1
 | _=>False
theorem dXy {tg l:Expr} {tl:ED} (hl:PD K X l tl):PID K X tg l (fXi tl):=.of (fQv hl.o) fun σ H Q z=>z.el λF S Γ QD r g q c =>
 ⟨F,S,Γ,_,r,g,q,λv d H1 G B D v1 j=>by
  match d,j with
  | .str x,j=>exact⟨x,rstr v1,c _ _ _ _ _ B D eZ8 j⟩⟩
end
end L2
set_option maxHeartbeats 4000000
namespace L2
open PySem PySem.Spec PyProof.Rows
section
variable {X:Cx}
def dZs (w:aO) (K:Fg):List V->Hp->VK->Prop:=λxs H Q=>∃ x ms,xs=[x]/\dSt w K H x ms/\ms.Nodup/\ms.length < 300/\∀ l ys out,H l=none->out.Perm ms->out.Pairwise (λa b=>HT.lexS a b=true)->bb (dT K dS H) ys out->Q (.ref l) (upd H l (.lst ys))
theorem bQi {K:Fg} {w:aO} (hu:X.A.units + 8 < cx) (hK:X.K=K:=by rfl) (hw:X.w=w:=by rfl) (hc:X.calm=true:=by rfl):CallR X (.builtin "sorted") (dZs w K):=by
 subst hw;intro pins s σ H xs us Q I r h;obtain⟨x,ms,rfl,⟨p,es,ep,t,ps,rfl,hH,hf,G,L,pp,rfl⟩,nd,O,q⟩:=h;obtain⟨u,rfl,rx⟩:=aX9 r;cases rx;obtain⟨hg,_⟩:=I.hok p _ hH;have hl:es.size=ps.length:=by have:=b6 pp;simpa using this
 have hpl':ps.length < 300:=by simpa using O
 have hh:=I.ok.hd hc;refine fu kind_sorted plain_sorted entry_sorted (args_sorted1 _) ?_;unfold cg.«sorted»;refine aa (m:=checkCount "sorted" 1 1 _) (ae ?_);refine aa (ST.collectT (by simp[hh]) hg hf G L (by lia) λvals h1 d B kp=>?_)
 obtain⟨ps',j,z⟩:=ST.paired_perm B pp;have hvl:vals.length=ps'.length:=b6 z;have hpl2:ps'.length=ps.length:=j.length_eq;have R:Inv X pins σ H { s with heap:=h1,drawn:=d }:=(I.kept (t':=s.toks) kp).drawn d
 refine aa (iB ?_ (by rw[be];lia))
 have D:(h1.push (cm "list" vals.toArray 0)).get? h1.objs.size=some (cm "list" vals.toArray 0):=ax _ rfl;refine aa (bh (cK slot_list_sort ⟨_,D,rfl⟩ entry_list_sort ?body (args_list_sort _)))
 case body =>
  refine KS.sort_tups (s:={ s with heap:=h1.push (cm "list" vals.toArray 0),drawn:=d }) (ds:=ps'.map (·.2)) (by show X.A.units + 1 + 1 < _;lia) D (eJl R hK (λb o e=>ag _ e) z) ((j.map (·.2)).nodup_iff.mpr nd) (by rw[be];lia) λidx h' c Z Y U g kk=>⟨_,rfl,ae ⟨_,rfl,?_⟩⟩
  have N:∀ i∈idx,i < vals.length:=λi hi=>aP.mp (Z.mem_iff.mp hi);have zv:=KS.paired_idx z bX (V.non,[]) idx N;obtain⟨z1,z2⟩:=bZg zv;have eo:(idx.map λi=>(ps'.map (·.2)).getD i [])=(idx.map λi=>ps'.getD i (V.non,[])).map (·.2):=by
   rw[bd];exact fx λi _=>cQk ps' i
  rw[eo] at Y U;have J:H h1.objs.size=none:=R.hok.fresh (Nat.le_refl _);have sm:Same H (upd H h1.objs.size (.lst ((idx.map λi=>ps'.getD i (V.non,[])).map (·.1)))):=aQw J;have il:idx.length=vals.length:=by have:=Z.length_eq;simpa using this
  have I2:Inv X pins σ (upd H h1.objs.size (.lst ((idx.map λi=>ps'.getD i (V.non,[])).map (·.1)))) { s with heap:=h',drawn:=d }:=R.laid (t':=s.toks) (λb o e=>kk b o (Nat.ne_of_lt (az e)) (ag _ e)) (Nat.le_refl _)
   ⟨by simp only[aj];rw[be];lia,_,c,z1,g⟩
  exact⟨.ref h1.objs.size,_,I2,rfl,q _ _ _ J (U.trans (j.map (·.2))) Y z2⟩
end
section
variable {X:Cx} {K:Fg} {pos:Pos} {k:Nat} {F:Am} {S:Sto} {H:Hp}
theorem Rp.ntup (r:Rp K F S H) {a:Addr} {xs:List V} (h:Rd H a (.tup xs)):¬ mt S F a:=λz=>by
 have no:∀ u,H a=some u->(∀ ys,u≠.tup ys)->(∀ o ys,u≠.frz o (.tup ys))->False:=λu e J G=>by
  rcases h with h | ⟨o,h⟩
  ·rw[e] at h;exact J _ (aR h)
  ·rw[e] at h;exact G _ _ (aR h)
 rcases z with z | z
 ·cases e:S a with
  | none=>exact z e
  | some o =>
   have q:=r.obj a o e;cases o with
   | lst ds=>obtain⟨us,j,_⟩:=q;exact no _ j (λ_ z=>by cases z) λ_ _ z=>by cases z
   | dk B=>obtain⟨us,j,_⟩:=q;exact no _ j (λ_ z=>by cases z) λ_ _ z=>by cases z
   | dt B=>obtain⟨us,j,_⟩:=q;exact no _ j (λ_ z=>by cases z) λ_ _ z=>by cases z
   | tb ps L=>obtain⟨us,j,_⟩:=q;exact no _ j (λ_ z=>by cases z) λ_ _ z=>by cases z
   | ex f N hl=>obtain⟨us,j,D⟩:=hl _ _ _ q;exact no _ j (λ_ z=>by subst z;exact D) λ_ _ z=>by subst z;exact D
 ·obtain⟨⟨zs,e,ct⟩,_⟩:=r.frm a z;exact no _ e (λ_ z=>by subst z;exact ct) λ_ _ z=>by subst z;exact ct
theorem cQv (r:Rp K F S H):∀ {xs:List V} {ts:List (List Str)},bb (dT K dS H) xs ts->RepL K (mt S F) H (ts.map tupS) xs
 | _,_,.nil=>RepL.nil
 | _,_,.cons ⟨a,us,e,sq,p⟩ q=>by
  refine RepL.cons ?_ (cQv r q);subst e;unfold tupS RepV;refine⟨a,us,rfl,?_,cJ7 p⟩;rcases sq with h | h
  ·exact .inl ⟨r.ntup h,h⟩
  ·exact .inr (.inr h)
end
end L2
set_option maxHeartbeats 1000000
namespace L2
open PySem PySem.Spec PyProof.Rows
section
variable {X:Cx}
def dSs (w:aO):Dn (List Str):=λH v ms=>∃ p es ep t,v=.ref p/\H p=some (stO p es ep t)/\t.fits es.size=true/\t.led=ST.ledOf w/\(t.plain=true->es.size<=1)/\jc (es.toList.map (·.2)) ms
theorem bZ0 {P:aC} {w:aO} {h:a9}:∀ {es:List (Int × ad)} {ms:List Str},bb (λ(e:Int × ad) k=>(ST.strKd P w).is h k e.2) es ms->jc (es.map (·.2)) ms
 | _,_,.nil=>.nil
 | (a,v)::es,m::ms,.cons p q=>by
  have j:∃ t,v=.str m t:=by
   unfold ST.strKd at p;simp only[dE] at p;cases v <;> simp[fz] at p;subst p;exact⟨_,rfl⟩
  obtain⟨t,rfl⟩:=j;exact .cons m t (bZ0 q)
def eZ9 (w:aO) (K:Fg):List V->Hp->VK->Prop:=λxs H Q=>∃ x ds,xs=[x]/\dL K dS H x ds/\ds.length + 1<=300/\∀ p ms H',Same H H'->ms.Nodup->(∀ k,k∈ms↔k∈ds)->dSs w H' (.ref p) ms->Q (.ref p) H'
theorem bJp {K:Fg} {w:aO} (hu:X.A.units + 8 < cx) (hK:X.K=K:=by rfl) (hw:X.w=w:=by rfl) (hc:X.calm=true:=by rfl):CallR X (.type "set") (eZ9 w K):=by
 subst hK hw;intro pins s σ H xs us Q I r h;obtain⟨x,ds,rfl,⟨a,ys,rfl,R,p⟩,hn,q⟩:=h;obtain⟨u,rfl,rx⟩:=aX9 r;cases rx;obtain⟨its,J,pl,_⟩:=I.list R;refine ST.call_setK (ST.strKd X.prog X.w) (I.ok.hd hc) hu pl.isList (dXg p J) (by rw[am,<- J.length,p.length];exact hn) λh' N ms M _ U=>?_
 obtain⟨es,G,t,B,j,L⟩:=M.ex;have D:H s.heap.objs.size=none:=I.hok.fresh (Nat.le_refl _);have O:Same H (upd H s.heap.objs.size (stO s.heap.objs.size es G t)):=aQw D;refine⟨.ref s.heap.objs.size,_,I.laid (t':=N) (o:=stO s.heap.objs.size es G t) (λb o e=>U b o (az e) e) (Nat.le_refl _) ?_,rfl,q _ _ _ O M.nd M.mem ⟨_,es,G,t,rfl,aQg,(ST.strKd X.prog X.w).fits B,j,λz=>(ST.strKd X.prog X.w).few B L M.nd z,bZ0 L⟩⟩;exact⟨(ST.strKd X.prog X.w).obj B,⟨_,(ST.strKd X.prog X.w).obj B⟩,λg1 g2 g k=>k _ g⟩
theorem bXm {l l':List ad} (p:l'.Perm l):∀ {m:List Str},jc l m->∃ m',m'.Perm m/\jc l' m':=by
 induction p with
 | nil=>intro m h;exact⟨m,.refl _,h⟩
 | cons x p N =>
  intro m h;cases h with
  | cons y t r =>
   obtain⟨m',J,h'⟩:=N r;exact⟨_::m',J.cons _,.cons _ _ h'⟩
 | swap x y l =>
  intro m h;cases h with
  | cons y t r =>
   cases r with
   | cons z u r=>exact⟨_,.swap _ _ _,.cons _ _ (.cons _ _ r)⟩
 | trans p q B j =>
  intro m h;obtain⟨O,G,h1⟩:=j h;obtain⟨L,D,h2⟩:=B h1;exact⟨L,D.trans G,h2⟩
def eZa (w:aO):List V->Hp->VK->Prop:=λxs H Q=>∃ x ms,xs=[x]/\dSs w H x ms/\ms.Nodup/\ms.length < 300/\∀ (l:Addr) (out:List Str),H l=none->out.Perm ms->out.Pairwise (λa b=>HT.ltS a b=true)->Q (.ref l) (upd H l (.lst (out.map V.str)))
theorem bZp {w:aO} (hw:X.w=w:=by rfl) (hc:X.calm=true:=by rfl):CallR X (.builtin "sorted") (eZa w):=by
 subst hw;intro pins s σ H xs us Q I r h;obtain⟨x,ms,rfl,⟨p,es,ep,t,rfl,hH,hf,J,N,pp⟩,nd,h64,q⟩:=h;obtain⟨u,rfl,rx⟩:=aX9 r;cases rx;obtain⟨hg,_⟩:=I.hok p _ hH;have hl:es.size=ms.length:=by have:=pp.length;simpa using this
 have hh:=I.ok.hd hc;refine fu kind_sorted plain_sorted entry_sorted (args_sorted1 _) ?_;unfold cg.«sorted»;refine aa (m:=checkCount "sorted" 1 1 _) (ae ?_);refine aa (ST.collectT (by simp[hh]) hg hf J N (by omega) λvals h1 d G kp=>?_)
 obtain⟨ms',j,z⟩:=bXm G pp;have hvl:vals.length=ms'.length:=z.length;have hml:ms'.length=ms.length:=j.length_eq;have Y:Inv X pins σ H { s with heap:=h1,drawn:=d }:=(I.kept (t':=s.toks) kp).drawn d
 refine aa (iB ?_ (by rw[be];omega))
 have B:(h1.push (cm "list" vals.toArray 0)).get? h1.objs.size=some (cm "list" vals.toArray 0):=ax _ rfl;refine aa (bh (cK slot_list_sort ⟨_,B,rfl⟩ entry_list_sort (SF.treeK strKind_oneLt (s:={ s with heap:=h1.push (cm "list" vals.toArray 0),drawn:=d }) B z.keysOf (λU R rest e=>keyKind_strs (by rw[<- e];exact z)) (by rw[be];omega) λD a1 a2=>⟨_,rfl,?_⟩) (args_list_sort _)))
 refine ae ⟨_,rfl,?_⟩;obtain⟨out,o1,L,Z⟩:=sorted_out_str z a1 a2;obtain⟨v1,_⟩:=bZh (H:=H) o1;have O:H h1.objs.size=none:=Y.hok.fresh (Nat.le_refl _);obtain⟨e,he⟩:=sortedHeap_at (out:=(aN D).map (·.2)) B;have hol:=L.length_eq;have I2:Inv X pins σ (upd H h1.objs.size (.lst (out.map V.str))) { s with heap:=gy (h1.push (cm "list" vals.toArray 0)) h1.objs.size vals ((aN D).map (·.2)),drawn:=d }:=Y.laid (t':=s.toks) (λb o g=>(sortedHeap_old (Nat.ne_of_lt (az g)) (Nat.lt_trans (az g) (az B))).trans (ag _ g)) (Nat.le_refl _)
  ⟨by rw[aj,be];omega,((aN D).map (·.2)).toList,e,v1,by rw[Array.toArray_toList];exact he⟩
 exact⟨.ref h1.objs.size,_,I2,rfl,q _ _ O (L.trans j) (dXo Z ((L.trans j).nodup_iff.mpr nd))⟩
end
section
variable {X:Cx} {K:Fg} {pos:Pos} {k:Nat}
theorem fQw {M:Am} {H:Hp}:∀ ss:List Str,RepL K M H (ss.map D.str) (ss.map V.str)
 | []=>RepL.nil
 | s::ss=>RepL.cons (by unfold RepV;rfl) (fQw ss)
def dZt (b:Bool) (te:ED):ED:=fun Γ S Q=>te Γ S λd S1=>∃ ss:List Str,lsIs S1 d (ss.map D.str)/\ss.length < 300/\∀ out:List Str,out.Nodup->(∀ t,t∈out↔t∈ss)->out.Pairwise (λa b=>HT.ltS a b=true)->newL b (out.map D.str) S1 Q
theorem bXn {b:Bool} {e:Expr} {te:ED} {p p' pos':Pos} (hr:Room k X.A) (hg:Gl X "sorted") (hm:X.mg "sorted" = none) (hg':Gl X "set") (hm':X.mg "set" = none) (he:PD K X e te) (hK:X.K=K:=by rfl) (hc:X.calm=true:=by rfl)
  (h1:ay [e] X.env=(false,eval e X.env)::ay [] X.env:=by rfl) (h2:ay [Expr.Call (.Name "set" p') [e] [] pos'] X.env=(false,eval (Expr.Call (.Name "set" p') [e] [] pos') X.env)::ay [] X.env:=by rfl) (h3:(cD pos (ay [] X.env)).any (·.1)=false:=by rfl) (h4:(cD pos' (ay [] X.env)).any (·.1)=false:=by rfl) :
  PD K X (.Call (.Name "sorted" p) [.Call (.Name "set" p') [e] [] pos'] [] pos) (dZt b te) :=
 .of (bZ3 (bZp rfl hc) hg hm aJr (aJl (aJm (bJp (lt64 hr) hK rfl hc) hg' hm' dXd (aJl he.o bX0 h1) (by decide) (by decide) h1 h4) bX0 h2) (by decide) (by decide) h2 h3) fun σ H Q J=>J.el λF S Γ QD r g q c =>
 ⟨F,S,Γ,_,r,g,q,λv d H1 B N D v1 G=>by
  obtain⟨ss,hl,z,R⟩:=G;obtain⟨a,us,rfl,sq,Y⟩:=lsIs.sl D v1 hl;refine⟨_,ss,rfl,⟨a,us,rfl,sq,bJj Y⟩,by omega,λp ms H2 s2 nd mem st=>⟨_,ms,rfl,st,nd,Nat.lt_of_le_of_lt (cXr nd mem).1 z,λl out j pm U=>?_⟩⟩
  have O:Rp K F B H2:=D.same s2;have L:Ext B H1 B H2:=Ext.same s2;exact Cn.new (Cn.shift c (N.trans L)) O j (fQw out) (R out (pm.nodup_iff.mpr nd) (λt=>(pm.mem_iff).trans (mem t)) U)⟩
end
end L2
set_option maxHeartbeats 4000000
namespace L2
open PySem PySem.Spec PyProof.Rows
theorem dQ0 (a b:Addr) (xs ys:Array ad) (m n:Nat) (dc:Option Addr) (sl:Array (Option ad)) (h0:¬ (!xs.isEmpty && dD (xs.size + ys.size))=true) (h1:xs.size<=sizeLine) (h2:xs.size + ys.size<=sizeLine + 1) :
  Meets (cg.«list.extend» ⟨[.ref a,.ref b],[]⟩) (λ_ R s=>s.heap.get? a=some { cls:=.type "list",dict:=none,data:=.seq xs m,slots:=#[] }/\s.heap.get? b=some { cls:=.type "tuple",dict:=dc,data:=.seq ys n,slots:=sl } /\
   R (.ok (.ret bX)) { s with heap:=s.heap.update a (bK λz=>z++ys),toks:=s.toks }) :=
 .of_wp λprog w A R s hyp=>by
  obtain⟨O,gl,U,q,B⟩:=s;obtain⟨ga,j,fin⟩:=hyp;have N:=AutoSeq1.idx_int;have L:=iz;have J:=AutoSeq1.sub_list_list;have G:=AutoSeq1.sub_tuple_list;have D:=AutoSeq1.sub_list_tuple;have size:(xs++ys).size<=sizeLine + 1:=by rw[dg];exact h2
  wp_walk using (gJ ga rfl (hz:=h1) (_hz':=size)),iE ga,iE j
  exact⟨_,rfl,fin⟩
section
variable {X:Cx} {K:Fg} {pos:Pos}
def fQx (K:Fg):V->List V->Hp->VK->Prop:=λx vs H Q=>∃ l b xs zs,x=.ref l/\vs=[.ref b]/\H l=some (.lst xs)/\SqT K H b zs/\xs.length + zs.length<=sizeLine/\Q .non (upd H l (.lst (xs++zs)))
theorem eZb (hK:X.K=K:=by rfl):MtR X "list.extend" (fQx K):=by
 subst hK;intro pins s σ H x vs v us Q I rx Y h;obtain⟨l,b,xs,zs,rfl,rfl,R,hB,hz,q⟩:=h;cases rx;obtain⟨u,rfl,ru⟩:=Y.one;cases ru;obtain⟨z,its,n,r,hl,e⟩:=I.lstM R;obtain⟨j,L,U,_⟩:=I.tuple hB;obtain⟨⟨N,G,J,D⟩,g,O,Z,hd⟩:=id U;simp only at O hd;subst O hd;have l1:=r.length;have l2:=L.length;have fits:its.toArray.size + j.toArray.size<=sizeLine:=by rw[am,am];lia
 have B:¬ (!its.toArray.isEmpty && dD (its.toArray.size + j.toArray.size))=true:=by
  rw[cQ4 fits,jn];exact b8
 refine g6 F.slot_list_extend ⟨_,e,rfl⟩ F.entry_list_extend (F.args_list_extend_2 _ _) (dQ0 l b its.toArray j.toArray n Z _ _ B (by rw[am];lia) (by lia)) ⟨e,g,?_⟩
 refine⟨.non,_,I.lset (its':=its++j) R e (by simp) (r.append L) ?_,rfl,q⟩
 rw[av];lia
def fQy:D->List D->Sto->DK->Prop:=λo ds S Q=>match o,ds with
 | .ref a,[.tup ys]=>∃ xs,S a=some (.lst xs)/\xs.length + ys.length<=sizeLine/\Q .non (supd S a (.lst (xs++ys)))
 | _,_=>False
theorem eZc:MtD K "list" (fQx K) fQy ckL:=⟨λF S H d x r h c=>ty_L r h c,λF S H d ds x J Q QD r h l q c=>by
 match d,ds,q with
 | .ref a,[.tup ys],⟨xs,B,D,q⟩ =>
  obtain⟨v,rfl,j⟩:=l.one;obtain⟨us,G,z⟩:=r.obj a _ B;rw[rref h];unfold RepV at j;obtain⟨b,ws,rfl,t,lw⟩:=j;exact⟨a,b,us,ws,rfl,rfl,G,t.sq,by rw[z.length,lw.length];exact D,c.write r (us:=us) B (z.app lw) (by unfold RepV;rfl) q⟩⟩
theorem dQ1 {o e:Expr} {to:ED} {t:AD} {apos cpos:Pos} (ho:PD K X o to) (ha:PAD K X [e] t) (hK:X.K=K:=by rfl)
  (hbase:fD o "extend" X.env (eval o X.env)=eval o X.env:=by rfl)
  (hfew:((cD cpos (ay [e] X.env)).all (λx=>!x.1) && (jm cpos (gE [] X.env)).all (λx=>x.1.isSome)
   && decide (([e]:List Expr).length + ([]:List fX).length + (if ([]:List fX).isEmpty then 0 else 1) < 30))=true:=by rfl)
  (hline:(apos.endLine == cpos.line)=true:=by rfl) (hs:ay [e] X.env=(false,eval e X.env)::ay [] X.env:=by rfl) (hplain:(cD cpos (ay [] X.env)).any (·.1)=false:=by rfl) :
  PD K X (.Call (.Attribute o "extend" apos) [e] [] cpos) (dMt fQy ckL to t):=e_bm eZc eJ iC iD (eZb hK) ho ha hK hbase hfew hline hs hplain
end
end L2
set_option maxHeartbeats 1000000
namespace L2
open PySem PySem.Spec PyProof.Rows
section
variable {X:Cx} {K:Fg} {pos:Pos}
theorem fQz:cu "abs" = some (.builtin "abs"):=by decide +kernel
def absD:RCD:=λds S Q=>match ds with
 | [.int i]=>Q (.int (if i < 0 then -i else i)) S
 | _=>False
theorem eZd {e:Expr} {t:AD} {p:Pos} (hg:Gl X "abs") (hm:X.mg "abs" = none) (ha:PAD K X [e] t) (he:ay [e] X.env=(false,eval e X.env)::ay [] X.env:=by rfl) (hpl:(cD pos (ay [] X.env)).any (·.1)=false:=by rfl):PD K X (.Call (.Name "abs" p) [e] [] pos) (dCB absD t):=aXs dQl (by
 intro F S H ds z Q QD r l h c
 match ds,h with
 | [.int i],q =>
  obtain⟨v,rfl,j⟩:=l.one;rw[rint j];exact⟨i,rfl,c _ _ _ S (Ext.refl _ _) r (by unfold RepV;rfl) q⟩) hg hm fQz ha (by decide) (by decide) he hpl
end
end L2
namespace ST
open PySem PySem.SetTable PySem.Spec PyProof.Rows
end ST
namespace L2
open PySem PySem.Spec PyProof.Rows
section
variable {X:Cx} {K:Fg} {pos:Pos} {k:Nat} {κ:Type}
theorem bJq {α β:Type} {f:α->β} (hf:∀ x y,f x=f y->x=y):∀ {l m:List α},l.map f=m.map f->l=m
 | [],[],_=>rfl
 | [],_::_,h=>by cases h
 | _::_,[],h=>by cases h
 | x::l,y::m,h=>by
  rw[bi,bi] at h;injection h with h1 h2
  rw[hf _ _ h1,bJq hf h2]
theorem dZu (x y:List Str) (h:tupS x=tupS y):x=y:=by
 unfold tupS at h;injection h with h
 exact bJq (λa b e=>by injection e) h
end
end L2
set_option maxHeartbeats 4000000
namespace HT
open PySem PyProof.Rows
end HT
namespace L2
open PySem PySem.Spec PyProof.Rows
def lexN (lt:D->D->Bool):List D->List D->Bool
 | [],[]=>false
 | [],_::_=>true
 | _::_,[]=>false
 | x::xs,y::ys=>if x=y then lexN lt xs ys else lt x y
def ltN:Nat->D->D->Bool
 | _,.int i,.int j=>decide (i < j)
 | _,.str x,.str y=>HT.ltS x y
 | n + 1,.tup xs,.tup ys=>lexN (ltN n) xs ys
 | n + 1,.lst xs,.lst ys=>lexN (ltN n) xs ys
 | _,_,_=>false
def okLs (ok:D->D->Bool) (n:Nat):List D->List D->Bool
 | x::xs,y::ys=>okE n x y && (if x=y then okLs ok n xs ys else ok x y)
 | _,_=>true
def okL:Nat->D->D->Bool
 | _,.int _,.int _=>true
 | _,.str _,.str _=>true
 | n + 1,.tup xs,.tup ys=>okLs (okL n) n xs ys
 | n + 1,.lst xs,.lst ys=>okLs (okL n) n xs ys
 | _,_,_=>false
end L2
set_option maxHeartbeats 1000000
namespace L2
open PySem PySem.Spec PyProof.Rows
end L2
set_option maxHeartbeats 4000000
namespace L2
open PySem PySem.Spec PyProof.Rows
end L2
set_option maxHeartbeats 1000000
namespace L2
open PySem PySem.Spec PyProof.Rows
end L2
namespace L2
open PySem PyProof.Rows
section
variable {K:ap} {k:Nat}
theorem e_fn {P:aC} {w:aO} {mg:Str->Option ad} {base:a9} {x:Str} {st:Stmt} {N ps:List Str} {sp:SpD} {f:Addr} {fd:dw} (Fn:Fun K x x st f fd) (S:FnScope N ps (aQ4 st))
  (len:∀ ds S Q,sp ds S Q->ds.length=ps.length)
  (h:∀ (cdv:ad) (A:aY) (outer:List Env) (s:ai) (H:Hp) (E:XK),Room k (A.deeper (iu x (aQ4 st) s.heap.objs.size f cdv)) ->
   ∃ t,PSsD K (cxOf CX0 P w K mg base N x (aQ4 st) f cdv A outer s H E).nox (aZk st) t/\∀ ds S Q,sp ds S Q->t (dZg Q) (bQz N ds) S):FnOk P w K mg base CX0 (k + 1) f fd ps (spU K sp):=by
 refine Fn.ok S (λL H Q E B=>by obtain⟨F,S,ds,QD,r,l,j,c⟩:=B;rw[l.length];exact len ds S QD j) (λcdv A outer s H L Q Z O B=>?_)
 obtain⟨F,S,ds,QD,r,l,j,c⟩:=B;obtain⟨t,h1,h2⟩:=h cdv A outer s H Z O;have fin:∀ v d H' S',Ext S H S' H'->Rp K F S' H'->RepV K (mt S' F) H' d v->rtD QD d S'->Q v H':=λv d H' S' D z v1 J=>by
  obtain⟨U,Y,G,R,q⟩:=J;exact c v U H' Y (D.trans (Ext.less G)) (z.less G) ((dXw z G R).1 v v1) q
 exact⟨_,h1.o,F,S,bQz N ds,dZg QD,r,cQs l,h2 ds S QD j,fun Γ' S' σ' H' D z g1 q=>fin .non .non H' S' D z (by unfold RepV;rfl) q,fin,λ_ _ _ _ _ _ _ q=>q.elim,λ_ _ _ _ _ _ _ q=>q.elim⟩
end
theorem us1 {p:List ad->Prop} (h:∀ a,p [a]) (us:List ad) (ee:us.length=1):p us:=by
 cases us with
 | nil=>cases ee
 | cons a us =>
  cases us with
  | nil=>exact h a
  | cons z us=>exact absurd (Nat.succ.inj ee) (Nat.succ_ne_zero _)
theorem us2 {p:List ad->Prop} (h:∀ a b,p [a,b]) (us:List ad) (ee:us.length=2):p us:=by
 cases us with
 | nil=>cases ee
 | cons a us =>
  cases us with
  | nil=>cases ee
  | cons b us =>
   cases us with
   | nil=>exact h a b
   | cons z us=>exact absurd (Nat.succ.inj (Nat.succ.inj ee)) (Nat.succ_ne_zero _)
theorem us3 {p:List ad->Prop} (h:∀ a b c,p [a,b,c]) (us:List ad) (ee:us.length=3):p us:=by
 cases us with
 | nil=>cases ee
 | cons a us =>
  cases us with
  | nil=>cases ee
  | cons b us =>
   cases us with
   | nil=>cases ee
   | cons c us =>
    cases us with
    | nil=>exact h a b c
    | cons z us=>exact absurd (Nat.succ.inj (Nat.succ.inj (Nat.succ.inj ee))) (Nat.succ_ne_zero _)
theorem us4 {p:List ad->Prop} (h:∀ a b c d,p [a,b,c,d]) (us:List ad) (ee:us.length=4):p us:=by
 cases us with
 | nil=>cases ee
 | cons a us =>
  cases us with
  | nil=>cases ee
  | cons b us =>
   cases us with
   | nil=>cases ee
   | cons c us =>
    cases us with
    | nil=>cases ee
    | cons d us =>
     cases us with
     | nil=>exact h a b c d
     | cons z us=>exact absurd (Nat.succ.inj (Nat.succ.inj (Nat.succ.inj (Nat.succ.inj ee)))) (Nat.succ_ne_zero _)
theorem fsc {N ps:List Str} {sc:Scope} (a:sc.kind=.function:=by rfl) (b:sc.isCoroutine=false:=by rfl) (c:sc.isGenerator=false:=by rfl) (d:N.Nodup:=by decide +kernel) (e:N.take ps.length=ps:=by rfl) (f:∀ x∈ps,sc.names.lookup x=some .local\/sc.names.lookup x=some .cell:=by decide +kernel) (g:∀ y∈sc.names,y.2≠.free:=by decide +kernel):FnScope N ps sc:=⟨a,b,c,d,e,f,g⟩
theorem walkD {l:je} {q:aC} {loose:List Str} {XP:(Str->Option ad)->a9->Prop} {YP:aO->a9->Prop} {d:DefRec} {K:Params->ap} (hn:l.most=some 63) (hdf:d.params.defaults=[])
  (hY:∀ (w:aO) (h:a9),YP w h->(K w.params).In h)
  (F:∀ (w:aO) (mg:Str->Option ad) (fa:Addr) (h:a9),(K w.params).In h->h.Ns a8 mg->mg d.name=some (.ref fa) ->
   ∃ fd:dw,(∀ (s:ai) (u:ad),BindsTo s fd ⟨[u],[]⟩ [("script",u)])/\∀ base:a9,(K w.params).In base->base.Ns a8 mg->FnOk l.prog w (K w.params) mg base CX0 50 fa fd ["script"] (spU (K w.params) (bXk 63))) :
  PySem.W.WalkO q loose XP YP l.row.toRowW d [] (λf vs=>PySem.call f vs) :=
 L2.walk_of (n:=63) (k:=50) (x := "script") (CX:=λ_=>CX0) (sp:=λw=>spU (K w.params) (bXk 63)) hn (by decide) hdf ⟨rfl,by decide,by decide⟩ hY F (λ_ _ a ns hl _ j=>fQi hl j) λ_ _ _ _ _ z=>z
end L2
namespace Toy
open PySem L2
def top (i:Nat):Stmt:=PySem.Challenge.pw_corepetals_k56_whole_rows_otherwise.main.body.getD i (.Pass ⟨0,0,0,0⟩)
end Toy
set_option maxHeartbeats 4000000
namespace L2
open PySem PySem.Spec PyProof.Rows
theorem bXo {α:Type} (l:List α) (i:Nat):∀ m,(aT m).filterMap (λk=>l[i + k]?)=(l.drop i).take m
 | 0=>rfl
 | m + 1=>by
  rw[fJ,gi,bXo l i m,dH]
  congr 1
  rw[g9];simp only[cb,List.filterMap_nil];cases l[i + m]? <;> rfl
theorem fZ0 (lo hi:Option Int) (n:Nat):bP lo hi 1 n=(aT (HT.sIx n n hi - HT.sIx n 0 lo)).map λk=>HT.sIx n 0 lo + k:=by
 have e:bP lo hi 1 n=sliceRange (eL lo hi none n).1 (eL lo hi none n).2.1 1:=rfl;obtain⟨h1,h2,_⟩:=aJ4 lo hi n;rw[e,h1,h2];unfold sliceRange;have j:(if (1:Int) > 0 then (if ((HT.sIx n 0 lo:Nat):Int) < ((HT.sIx n n hi:Nat):Int) then (((HT.sIx n n hi:Nat):Int) - ((HT.sIx n 0 lo:Nat):Int) + 1 - 1) / 1 else 0) else (if ((HT.sIx n 0 lo:Nat):Int) > ((HT.sIx n n hi:Nat):Int) then (((HT.sIx n 0 lo:Nat):Int) - ((HT.sIx n n hi:Nat):Int) - 1 - 1) / (-1) else 0)).toNat=HT.sIx n n hi - HT.sIx n 0 lo:=by
  rw[if_pos (by decide),Int.ediv_one]
  split <;> lia
 show(aT _).map _=_;rw[j];apply fx;intro k _;lia
theorem cutS_eq (z:Str) (lo hi:Option Int):cutS z lo hi=⟨((z.cps.toList.drop (HT.sIx z.length 0 lo)).take (HT.sIx z.length z.length hi - HT.sIx z.length 0 lo)).toArray⟩:=by
 unfold cutS;rw[fZ0,aj,cR];have B:HT.sIx z.length z.length hi<=z.length:=HT.sIx_le _ _ (Nat.le_refl _) hi;have q:z.cps.toList.length=z.length:=aK
 by_cases h:(HT.sIx z.length z.length hi - HT.sIx z.length 0 lo == z.length)=true
 ·rw[if_pos h];have h':=gu h
  by_cases h0:z.length=0
  ·have:z.cps=#[]:=Array.eq_empty_of_size_eq_zero h0
   cases z;simp only at this;subst this;simp
  ·have j:HT.sIx z.length 0 lo=0:=by lia
   rw[h',j,fZ,bE (by lia)]
 ·rw[if_neg h,List.filterMap_map]
  congr 1
  have:=bXo z.cps.toList (HT.sIx z.length 0 lo) (HT.sIx z.length z.length hi - HT.sIx z.length 0 lo)
  rw[<- this]
  congr 2
  funext k;show z.cps[HT.sIx z.length 0 lo + k]?=_;rw[aM]
end L2
set_option maxHeartbeats 1000000
namespace L2
open PySem
def lettersZ:Str:=a7 "abcdefghijklmnopqrstuvwxyz"
theorem dQ2 {i:Nat} (h:i < 26):atI lettersZ.cps.toList (i:Int)=some (97 + i):=by
 have:∀ j:Fin 26,lettersZ.cps.toList[j.val]?=some (97 + j.val):=by decide +kernel
 exact aZs (this ⟨i,h⟩)
end L2
set_option maxHeartbeats 4000000
namespace L2
open PySem
theorem z9999 {n:Nat} (h:n<=9999):n<=sizeLine:=by rw[be];lia
theorem bQ8 {α:Type}:∀ (l:List α) (j:Nat) (h:j < l.length),(l[j]::l.eraseIdx j).Perm l
 | a::l,0,_=>.refl _
 | a::l,j + 1,h=>by
  have q:=bQ8 l j (by simpa using h)
  show(l[j]'(by simpa using h)::a::l.eraseIdx j).Perm (a::l)
  exact(ju.swap _ _ _).trans (q.cons a)
theorem bXp {α β:Type} {f:α->β} (g:β->α) (hg:∀ x,g (f x)=x) {vs us:List β} {xs:List α} (h:(vs++us).Perm (xs.map f)):∃ as bs:List α,vs=as.map f/\us=bs.map f/\(as++bs).Perm xs:=by
 have mem:∀ y∈vs++us,f (g y)=y:=λy j=>by
  obtain⟨x,_,rfl⟩:=aH.mp (h.mem_iff.mp j);rw[hg]
 have lift:∀ l:List β,(∀ y∈l,f (g y)=y)->l=(l.map g).map f:=λl hl=>by
  rw[bd];apply iX (by simp)
  intro i h1 h2;rw[iY];exact(hl _ (cM h1)).symm
 refine⟨vs.map g,us.map g,lift vs λy j=>mem y (bZ _ j),lift us λy j=>mem y (aU _ j),?_⟩;have p:=h.map g;rw[bS,bd] at p;have e:xs.map (g ∘ f)=xs:=by
  apply iX (by simp)
  intro i h1 h2;rw[iY];exact hg _
 rwa [e] at p
def dStr':D->Str
 | .str s=>s
 | _=>⟨#[]⟩
theorem mem_tups {t:List Str} {l:List (List Str)}:tupS t∈l.map tupS↔t∈l:=by
 rw[aH];exact⟨λ⟨m,h,e⟩=>by rw[<- dZu _ _ e];exact h,λh=>⟨t,h,rfl⟩⟩
theorem aJ7:∀ l:List Str,aZ6 (l.map D.str)=true
 | []=>rfl
 | x::l=>by show(true && aZ6 (l.map D.str))=true;rw[aJ7 l];rfl
theorem aZv:∀ l:List (List Str),aZ6 (l.map tupS)=true
 | []=>rfl
 | x::l=>by
  show(aZ6 (x.map D.str) && aZ6 (l.map tupS))=true;rw[aJ7 x,aZv l];rfl
theorem cQw (a b:List Str):okE 8 (tupS a) (tupS b)=true:=by
 show((a.map D.str).zip (b.map D.str)).all (λp=>okE 7 p.1 p.2)=true;rw[List.zip_map,ef,br];rintro⟨a,b⟩ _
 rfl
end L2
namespace Toy
open PySem L2
def Pile (S:Sto) (a:Addr):Prop:=∃ (cs:List Int) (i r s c:Int),S a=some (.lst [.lst (cs.map D.int),.int i,.int r,.int s,.int c])/\cs.length<=63/\0<=i/\i<=cs.length/\0<=r/\0<=s/\s < 2147483629/\0<=c
theorem Pile.ne {S:Sto} {a p:Addr} (h:Pile S a) (hp:S p=none):p≠a:=by
 obtain⟨cs,i,r,s,c,hS,_⟩:=h;rintro rfl;rw[hp] at hS;cases hS
theorem Pile.eq {S S':Sto} {a:Addr} (h:Pile S a) (e:S' a=S a):Pile S' a:=by
 obtain⟨cs,i,r,s,c,j,k⟩:=h;exact⟨cs,i,r,s,c,e.trans j,k⟩
theorem Pile.supd {S:Sto} {a p:Addr} {o:DO} (h:Pile S a) (hp:p≠a):Pile (supd S p o) a:=h.eq (aQ9 (cf hp))
def bQ9:SpD:=λds S Q=>∃ ns:List Int,ds=[.lst (ns.map D.int)]/\ns.length<=63/\∀ p S',S p=none->Off p S S'->Pile S' p->Q (.ref p) S'
def aQq:SpD:=λds S Q=>∃ (a:Addr) (m:Int),ds=[.ref a,.int m]/\Pile S a/\1<=m/\m < 1000000/\∀ (r:Int) S',0<=r->r < m->Off a S S'->Pile S' a->Q (.int r) S'
theorem cQx {a lp:Addr} (hla:lp≠a) {S:Sto} {xs:List D} {m:Nat} (hS:S lp=some (.lst xs)) (hm:m<=xs.length) (hx:xs.length<=9999) (dk:Pile S a) {Q:List D->Sto->Prop}
  (q:∀ vs us S',(vs++us).Perm xs->vs.length=m->S' lp=some (.lst us)->Pile S' a->(∀ b,b≠a->b≠lp->S' b=S b)->Q vs S') :
  aX1 (aZj 0) dYes (bZj (dMt cJn ckL (dVar 1) (cJ5 (dCB aQq (cJ5 (dVar 2) (cJ5 (dCB lenD (cJ5 (dVar 1) dNil)) dNil))) dNil))) (λ_=>True) [none,some (.ref lp),some (.ref a)] (rngD 0 m) [] S Q:=by
 refine aJi (λi acc S'=>∃ us:List D,acc.length=i/\S' lp=some (.lst us)/\(acc++us).Perm xs/\Pile S' a/\∀ b,b≠a->b≠lp->S' b=S b) ⟨xs,rfl,hS,.refl _,dk,λ_ _ _=>rfl⟩ ?_ ?_
 ·rintro i x vs S' N L ⟨us,B,hl,pm,J,z⟩ hN;obtain⟨hi,rfl⟩:=cJv L;have hul:us.length + i=xs.length:=by have:=pm.length_eq;rw[av] at this;lia
  refine⟨trivial,⟨_,hl⟩,_,hl,a,us.length,rfl,J,by lia,by lia,λU S2 r20 Z G R=>?_⟩
  have O:S2 lp=some (.lst us):=(G lp hla).trans hl;obtain⟨j,rfl⟩:∃ j:Nat,U=j:=⟨U.toNat,by lia⟩
  have Y:j < us.length:=by lia
  refine⟨_,j,us[j],O,rfl,by lia,af Y,by rw[be];lia,hN _ _ ⟨us.eraseIdx j,?_,aQ7,?_,R.supd hla,λb h1 h2=>(aQ9 h2).trans ((G b h1).trans (z b h1 h2))⟩⟩
  ·rw[av,B];rfl
  ·refine ju.trans ?_ pm;rw[aZ];exact(List.perm_append_left_iff vs).mpr (bQ8 us j Y)
 ·rintro vs S' ⟨us,B,hl,pm,J,z⟩;rw[aX7] at B;exact⟨trivial,q vs us S' pm B hl J z⟩
def SetOf (names:List Str) (most:Nat) (t:List Str):Prop:=t.Nodup/\t.Pairwise (λx y=>leS x y=true)/\(∀ n∈t,n∈names)/\t.length<=most
def bZ1:SpD:=λds S Q=>∃ (a:Addr) (names:List Str) (many:Nat),ds=[.ref a,tupS names,.int many]/\Pile S a/\names.Nodup/\names.length<=60/\many<=60/\∀ t S',SetOf names many t->(t.length=many\/t.length=names.length)->Off a S S'->Pile S' a->Q (tupS t) S'
def aZ7:SpD:=λds S Q=>∃ (a:Addr) (names:List Str) (count:Nat) (sizes:List Nat) (most:Nat),ds=[.ref a,tupS names,.int count,.lst (sizes.map λk=>.int (k:Nat))]/\Pile S a/\names.Nodup/\names.length<=60/\count<=60/\sizes≠[]/\sizes.length<=99/\(∀ k∈sizes,k<=most)/\most<=60 /\
 ∀ (ts:List (List Str)) S',ts.Nodup->ts.Pairwise (λx y=>leT x y=true)->(∀ t∈ts,SetOf names most t)->ts.length<=count->Off a S S'->Pile S' a->Q (.tup (ts.map tupS)) S'
theorem cZn {α:Type} (l:List α) (nd:l.Nodup) (i m:Nat) (hi:i<=l.length) (hm:m<=l.length):(((l++l).drop i).take m).Nodup:=by
 have e:(l++l).drop i=l.drop i++l:=by rw[eN hi]
 rw[e];have j:(l.drop i++l.take i).Nodup:=by
  have:(l.drop i++l.take i).Perm l:=cT.trans (by rw[bj])
  exact this.nodup_iff.mpr nd
 have sub:((l.drop i++l).take m).Sublist (l.drop i++l.take i):=by
  have h1:(l.drop i++l).take m=((l.drop i++l.take i)++l.drop i).take m:=by rw[aZ,bj]
  rw[h1,cS (by rw[av,bq,aQ];lia)]
  exact fU _ _
 exact sub.nodup j
theorem eZe {p s:Str} {c d:Nat} (h:p++(⟨#[c]⟩:Str)++s=p++(⟨#[d]⟩:Str)++s):c=d:=by
 have e:(p.cps++#[c]++s.cps).toList=(p.cps++#[d]++s.cps).toList:=congrArg (λz:Str=>z.cps.toList) h;simpa using e
def sh2 (x y:Nat):List Str:=([x,y].map λc=>sg c++sg x)++([x,y].map λc=>sg c++sg y)
theorem bXq {z:Str} (h:z.length<=7) (lo hi:Option Int):(cutS z lo hi).length<=7:=by
 rw[cutS_eq];show(List.toArray _).size<=7;rw[am,aQ,bq]
 have:z.cps.toList.length=z.length:=aK
 lia
theorem aX2 {x y:Nat}:∀ w∈sh2 x y,w.length=2:=λw h=>by
 have two:∀ c d:Nat,(sg c++sg d).length=2:=λc d=>by
  show((#[c]:Array Nat)++#[d]).size=2;rw[dg];rfl
 unfold sh2 at h;rcases ar.mp h with h | h <;> (obtain⟨c,_,rfl⟩:=aH.mp h;exact two _ _)
def w14 (x y:Nat):List Str:=[x,y].map sg++sh2 x y++(sh2 x y).map (λw=>w++sg x)++(sh2 x y).map (λw=>w++sg y)
theorem aXy (a b:Str):(a++b).length=a.length + b.length:=by
 show(a.cps++b.cps).size=_;rw[dg];rfl
theorem eZf {x y:Nat}:∀ w∈w14 x y,1<=w.length:=λw h=>by
 unfold w14 at h;rcases ar.mp h with h | h
 ·rcases ar.mp h with h | h
  ·rcases ar.mp h with h | h
   ·obtain⟨c,_,rfl⟩:=aH.mp h;exact Nat.le_refl 1
   ·rw[aX2 w h];decide
  ·obtain⟨v,j,rfl⟩:=aH.mp h;rw[aXy,aX2 v j];lia
 ·obtain⟨v,j,rfl⟩:=aH.mp h;rw[aXy,aX2 v j];lia
end Toy
set_option maxHeartbeats 1000000
namespace Toy
open PySem L2
abbrev s_law_pile:Stmt:=top 14
theorem bJr:FnScope ["script"] ["script"] (aQ4 s_law_pile):=fsc
section
variable {P:aC} {w:aO} {K:ap} {mg:Str->Option ad} {base:a9} {pt cc:Addr}
theorem bJs (T:Tx K mg "_law_pile" s_law_pile) (B:Bs mg):Df P w K mg base 1 "_law_pile" ["script"] (spU K bQ9):=by
 refine aZf T bJr (λF=>F.binds λ_ _ _ _ _ _=>us1 λ_=>rfl) ?_ λf D A outer s H E G=>⟨_,(aQ6 (aQf (aZu (b:=true) (aQ0 (dv 0) (aQ0 aQ5 (aQ0 aQ5 (aQ0 aQ5 (aQ0 aQ5 aQ1)))))))),?_⟩
 ·rintro ds S Q ⟨ns,rfl,_⟩;rfl
 ·rintro ds S Q ⟨ns,rfl,hn,q⟩;refine⟨by show 5<=sizeLine;rw[be];decide,λp j=>aQa (q p _ j (λb z=>aQ9 z) ⟨ns,0,0,44021,0,aQ7,hn,by decide,by omega,by decide,by decide,by decide,by decide⟩)⟩
end
abbrev s_law_next:Stmt:=top 15
theorem sc_law_next:FnScope ["pile", "most", "found", "cell"] ["pile", "most"] (aQ4 s_law_next):=fsc
section
variable {P:aC} {w:aO} {K:ap} {mg:Str->Option ad} {base:a9} {pt cc:Addr}
theorem bJt (T:Tx K mg "_law_next" s_law_next) (B:Bs mg) (AB:mg "abs" = none):Df P w K mg base 1 "_law_next" ["pile", "most"] (spU K aQq):=by
 refine aZf T sc_law_next (λF=>F.binds λ_ _ _ _ _ _=>us2 λ_ _=>rfl) ?_ λf cdv A outer s H E hr=>⟨_,(aQ2 (aJa (eJy hr (e_ix (dv 0) aQ5) aQ5) (aQ2 (aQe (i:=2) sc_law_next.nd rfl (bp rfl) (bXf (e_ix (dv 0) aQ5) (dv 1)))
  (aQ2 (bQ3 (cJ4 (e_ix (dv 0) aQ5) (dv 1)) (bQx (dv 0) aQ5))
  (aQ6 (aQf (dv 2))))) aZa)
  (aQ2 (aJa (eQm hr (e_ix (dv 0) aQ5) (bXh rfl B.len (aQ0 (e_ix (dv 0) aQ5) aQ1))) (aQ2 (aQe (i:=3) sc_law_next.nd rfl (bp rfl) (e_ix (e_ix (dv 0) aQ5) (e_ix (dv 0) aQ5)))
  (aQ2 (bQ3 (aQz (k:=false) (e_ix (dv 0) aQ5) aQ5) (bQx (dv 0) aQ5))
  (aQ2 (bQ3 (bXf (aQz (k:=false) (dZa (e_ix (dv 0) aQ5) aQ5) (dv 3)) aQ5) (bQx (dv 0) aQ5))
  (aQ2 (aJa (fX4 hr (eZd rfl AB (aQ0 (dv 3) aQ1)) (fX2 aQ5 aQ5)) (aQ2 (bQ3 (cJ4 (eZd rfl AB (aQ0 (dv 3) aQ1)) (dv 1)) (bQx (dv 0) aQ5))
  (aQ6 (aQf (bXf (eZd rfl AB (aQ0 (dv 3) aQ1)) (dv 1))))) aZa)
  (aQ6 (aQf (bXf (dv 3) (dv 1)))))))) aZa)
  (aQ2 (bQ3 (aQz (k:=false) (e_ix (dv 0) aQ5) aQ5) (bQx (dv 0) aQ5))
  (aQ2 (bQ3 (bXf (aQz (k:=false) (aQz (k:=false) (dZa (e_ix (dv 0) aQ5) (e_ix (dv 0) aQ5)) (dZa aQ5 (e_ix (dv 0) aQ5))) aQ5) aQ5) (bQx (dv 0) aQ5))
  (aQ6 (aQf (bXf (cJ4 (e_ix (dv 0) aQ5) aQ5) (dv 1)))))))),?_⟩
 ·rintro ds S Q ⟨a,m,rfl,_⟩;rfl
 ·rintro ds S Q ⟨a,m,rfl,⟨cs,i,r,sd,c,G,Y,i0,i1,Z,s0,s1,c0⟩,L,m2,q⟩;have off:∀ o,Off a S (supd S a o):=λo b N=>aQ9 N;have J:∀ o o',Off a S (supd (supd S a o) a o'):=λo o' b N=>by rw[aQ9 N,aQ9 N]
  have R:∀ o o' U,Off a S (supd (supd (supd S a o) a o') a U):=λo o' U b N=>by rw[aQ9 N,aQ9 N,aQ9 N]
  refine⟨_,_,G,rfl,_,rfl,ite2 (λk0=>?_) λk0=>?_⟩
  ·refine⟨_,_,G,rfl,(by first | exact .inl ⟨by decide,by decide⟩ | exact .inr ⟨by decide,by decide⟩ | exact .inl ⟨by omega,by omega⟩ | exact .inr ⟨by omega,by omega⟩ | exact⟨by decide,by decide⟩ | exact⟨by omega,by omega⟩ | (show(0:Int) < _;first | decide | omega) | (show _<=sizeLine;rw[be];first | decide | omega) | decide | omega),_,_,G,rfl,⟨(by first | exact .inl ⟨by decide,by decide⟩ | exact .inr ⟨by decide,by decide⟩ | exact .inl ⟨by omega,by omega⟩ | exact .inr ⟨by omega,by omega⟩ | exact⟨by decide,by decide⟩ | exact⟨by omega,by omega⟩ | (show(0:Int) < _;first | decide | omega) | (show _<=sizeLine;rw[be];first | decide | omega) | decide | omega),(by first | exact .inl ⟨by decide,by decide⟩ | exact .inr ⟨by decide,by decide⟩ | exact .inl ⟨by omega,by omega⟩ | exact .inr ⟨by omega,by omega⟩ | exact⟨by decide,by decide⟩ | exact⟨by omega,by omega⟩ | (show(0:Int) < _;first | decide | omega) | (show _<=sizeLine;rw[be];first | decide | omega) | decide | omega)⟩,_,_,G,rfl,?_⟩
   show rtD Q (.int (r % m)) (supd S a (.lst [.lst (cs.map D.int),.int i,.int (r / m),.int sd,.int c]));exact aQa (q _ _ (md L).1 (md L).2 (off _) ⟨cs,i,r / m,sd,c,aQ7,Y,i0,i1,Int.ediv_nonneg Z (by omega),s0,s1,c0⟩)
  refine⟨_,_,G,rfl,_,_,G,rfl,_,rfl,_,rfl,ite2 (λk1=>?_) λk1=>?_⟩
  ·have hi:i.toNat < cs.length:=by have:=of_decide_eq_true k1;rw[aj] at this;omega
   obtain⟨cell,ei⟩:∃ cell:Int,atI (cs.map D.int) i=some (.int cell):=by
    refine⟨cs[i.toNat],?_⟩
    have:=aZs (xs:=cs.map D.int) (j:=i.toNat) (v:=.int cs[i.toNat]) (by rw[ba,af hi];rfl)
    rwa [show((i.toNat:Nat):Int)=i by omega] at this
   have z:supd S a (.lst [.lst (cs.map D.int),.int (i + 1),.int r,.int sd,.int c]) a=_:=aQ7;refine⟨_,_,G,rfl,_,_,G,rfl,_,_,rfl,ei,_,_,G,rfl,_,_,G,rfl,_,_,z,rfl,.inr ⟨by decide,by decide⟩,by show(0:Int) < 2147483629;decide,_,_,z,rfl,?_⟩
   have hm:=md (a:=sd * 69069 + cell) (b:=2147483629) (by decide)
   have O:supd (supd S a (.lst [.lst (cs.map D.int),.int (i + 1),.int r,.int sd,.int c])) a (.lst [.lst (cs.map D.int),.int (i + 1),.int r,.int ((sd * 69069 + cell) % 2147483629),.int c]) a=_:=aQ7;refine⟨⟨by decide,by decide,by decide⟩,_,rfl,ite2 (λk2=>?_) λk2=>?_⟩
   ·refine⟨⟨(by first | exact .inl ⟨by decide,by decide⟩ | exact .inr ⟨by decide,by decide⟩ | exact .inl ⟨by omega,by omega⟩ | exact .inr ⟨by omega,by omega⟩ | exact⟨by decide,by decide⟩ | exact⟨by omega,by omega⟩ | (show(0:Int) < _;first | decide | omega) | (show _<=sizeLine;rw[be];first | decide | omega) | decide | omega),(by first | exact .inl ⟨by decide,by decide⟩ | exact .inr ⟨by decide,by decide⟩ | exact .inl ⟨by omega,by omega⟩ | exact .inr ⟨by omega,by omega⟩ | exact⟨by decide,by decide⟩ | exact⟨by omega,by omega⟩ | (show(0:Int) < _;first | decide | omega) | (show _<=sizeLine;rw[be];first | decide | omega) | decide | omega)⟩,_,_,O,rfl,(by first | exact .inl ⟨by decide,by decide⟩ | exact .inr ⟨by decide,by decide⟩ | exact .inl ⟨by omega,by omega⟩ | exact .inr ⟨by omega,by omega⟩ | exact⟨by decide,by decide⟩ | exact⟨by omega,by omega⟩ | (show(0:Int) < _;first | decide | omega) | (show _<=sizeLine;rw[be];first | decide | omega) | decide | omega),aQa (q _ _ (md L).1 (md L).2 (R _ _ _) ⟨cs,i + 1,(if cell < 0 then -cell else cell) / m,(sd * 69069 + cell) % 2147483629,c,aQ7,Y,by omega,by omega,Int.ediv_nonneg (by split <;> omega) (by omega),hm.1,hm.2,c0⟩)⟩
   ·exact⟨(by first | exact .inl ⟨by decide,by decide⟩ | exact .inr ⟨by decide,by decide⟩ | exact .inl ⟨by omega,by omega⟩ | exact .inr ⟨by omega,by omega⟩ | exact⟨by decide,by decide⟩ | exact⟨by omega,by omega⟩ | (show(0:Int) < _;first | decide | omega) | (show _<=sizeLine;rw[be];first | decide | omega) | decide | omega),aQa (q _ _ (md L).1 (md L).2 (J _ _) ⟨cs,i + 1,r,(sd * 69069 + cell) % 2147483629,c,aQ7,Y,by omega,by omega,Z,hm.1,hm.2,c0⟩)⟩
  ·have z:supd S a (.lst [.lst (cs.map D.int),.int i,.int r,.int sd,.int (c + 1)]) a=_:=aQ7;have hm:=md (a:=sd * sd + 40014 * (c + 1) + 977) (b:=2147483629) (by decide)
   have O:supd (supd S a (.lst [.lst (cs.map D.int),.int i,.int r,.int sd,.int (c + 1)])) a (.lst [.lst (cs.map D.int),.int i,.int r,.int ((sd * sd + 40014 * (c + 1) + 977) % 2147483629),.int (c + 1)]) a=_:=aQ7;exact⟨_,_,G,rfl,_,_,G,rfl,_,_,z,rfl,_,_,z,rfl,.inl ⟨by omega,by omega⟩,_,_,z,rfl,.inl ⟨by decide,by decide⟩,by show(0:Int) < 2147483629;decide,_,_,z,rfl,_,_,O,rfl,⟨by decide,by decide⟩,(by first | exact .inl ⟨by decide,by decide⟩ | exact .inr ⟨by decide,by decide⟩ | exact .inl ⟨by omega,by omega⟩ | exact .inr ⟨by omega,by omega⟩ | exact⟨by decide,by decide⟩ | exact⟨by omega,by omega⟩ | (show(0:Int) < _;first | decide | omega) | (show _<=sizeLine;rw[be];first | decide | omega) | decide | omega),aQa (q _ _ (md L).1 (md L).2 (J _ _) ⟨cs,i,r,(sd * sd + 40014 * (c + 1) + 977) % 2147483629,c + 1,aQ7,Y,i0,i1,Z,hm.1,hm.2,by omega⟩)⟩
end
end Toy
namespace Toy
variable {α:Type}
def ch:List α->Nat->List (List α)
 | _,0=>[[]]
 | [],_ + 1=>[]
 | x::xs,n + 1=>(ch xs n).map (x::·)++ch xs (n + 1)
theorem ch_zero (xs:List α):ch xs 0=[[]]:=by cases xs <;> rfl
theorem ch_cons (x:α) (xs:List α) (n:Nat):ch (x::xs) (n + 1)=(ch xs n).map (x::·)++ch xs (n + 1):=rfl
theorem ch_mem:∀ {xs:List α} {n:Nat} {s:List α},s∈ch xs n->s.length=n/\s.Sublist xs
 | [],0,s,h=>by
  have:s=[]:=by simpa [ch] using h
  subst this;exact⟨rfl,.slnil⟩
 | [],n + 1,s,h=>by simp[ch] at h
 | x::xs,0,s,h=>by
  have:s=[]:=by simpa [ch] using h
  subst this;exact⟨rfl,List.nil_sublist _⟩
 | x::xs,n + 1,s,h=>by
  rw[ch_cons,ar,aH] at h;rcases h with⟨r,j,rfl⟩ | h
  ·obtain⟨a,b⟩:=ch_mem j;exact⟨by simp[a],b.cons_cons x⟩
  ·obtain⟨a,b⟩:=ch_mem h;exact⟨a,b.cons x⟩
theorem mem_ch:∀ {xs:List α} {s:List α},s.Sublist xs->s∈ch xs s.length
 | [],s,h=>by
  have:s=[]:=List.sublist_nil.mp h
  subst this;simp[ch]
 | x::xs,[],h=>by simp[ch]
 | x::xs,y::s,h=>by
  rw[aV,ch_cons,ar,aH];cases h with
  | cons _ h=>right;exact mem_ch (s:=y::s) h
  | cons_cons _ h=>left;exact⟨s,mem_ch h,rfl⟩
end Toy
namespace Toy
variable {α:Type}
def ext (lt:α->α->Bool) (z:α) (sets:List α) (s:List α):List (List α):=(sets.filter λo=>lt (s.getLastD z) o).map λo=>s++[o]
theorem aX3 {z:α}:∀ {s:List α},s≠[]->s.getLastD z∈s
 | [],h=>absurd rfl h
 | [x],_=>by simp
 | x::y::s,_=>by
  have:=aX3 (z:=z) (s:=y::s) (by simp)
  simp only[List.getLastD_cons] at this ⊢;exact aq _ this
theorem getLastD_cons' {z x:α}:∀ {s:List α},s≠[]->(x::s).getLastD z=s.getLastD z
 | [],h=>absurd rfl h
 | y::s,_=>by simp[List.getLastD_cons]
theorem ch_one:∀ xs:List α,ch xs 1=xs.map λx=>[x]
 | []=>rfl
 | x::xs=>by rw[ch_cons,ch_zero,ch_one xs];rfl
theorem fm_congr {β:Type} {f g:α->List β}:∀ {l:List α},(∀ a∈l,f a=g a)->l.flatMap f=l.flatMap g
 | [],_=>rfl
 | a::l,h=>by rw[gc,gc,h a ao,fm_congr λb j=>h b (aq _ j)]
theorem ch_ext {lt:α->α->Bool} {z:α}:∀ {sets:List α},sets.Pairwise (λa b=>lt a b=true/\lt b a=false)->(∀ a,lt a a=false)->∀ k,(ch sets (k + 1)).flatMap (ext lt z sets)=ch sets (k + 2)
 | [],_,_,k=>rfl
 | x::xs,J,irr,k=>by
  obtain⟨D,q⟩:=aW.mp J;have out:∀ s:List α,s≠[]->(∀ o∈s,o∈xs)->ext lt z (x::xs) s=ext lt z xs s:=λs j hm=>by
   unfold ext;rw[cN,(D _ (hm _ (aX3 j))).2]
   rfl
  have tail:(ch xs (k + 1)).flatMap (ext lt z (x::xs))=ch xs (k + 2):=by
   rw[<- ch_ext q irr k];refine fm_congr λs j=>?_;obtain⟨h1,h2⟩:=ch_mem j;exact out s (by rintro rfl;simp at h1) λo G=>h2.subset G
  rw[ch_cons,fy,tail,ch_cons (n:=k + 1)]
  congr 1
  cases k with
  | zero =>
   rw[ch_zero,ch_one];simp only[bi,dP,gc,List.flatMap_nil,ci];unfold ext;have e:([x]:List α).getLastD z=x:=rfl;rw[e,cN,irr x];simp only[aL,if_false];rw[eE.mpr λo G=>(D o G).1,bd]
   rfl
  | succ k =>
   rw[<- ch_ext q irr k,List.flatMap_map,List.map_flatMap];refine fm_congr λs j=>?_;obtain⟨h1,h2⟩:=ch_mem j;have B:s≠[]:=by rintro rfl;simp at h1
   unfold ext;rw[getLastD_cons' B,cN,(D _ (h2.subset (aX3 B))).2];simp only[aL,if_false,bd]
   rfl
end Toy
namespace Toy
variable {β:Type} [DecidableEq β]
theorem sorted_eq {lt:β->β->Prop} (irr:∀ a,¬ lt a a) (asy:∀ a b,lt a b->¬ lt b a):∀ {l m:List β},l.Pairwise lt->m.Pairwise lt->(∀ n,n∈l↔n∈m)->l=m
 | [],[],_,_,_=>rfl
 | [],b::m,_,_,h=>by have:=(h b).mpr ao;simp at this
 | a::l,[],_,_,h=>by have:=(h a).mp ao;simp at this
 | a::l,b::m,hl,hm,h=>by
  obtain⟨la,q⟩:=aW.mp hl;obtain⟨B,j⟩:=aW.mp hm;have e:a=b:=by
   rcases aB.mp ((h a).mp ao) with z | z
   ·exact z
   ·rcases aB.mp ((h b).mpr ao) with y | y
    ·exact y.symm
    ·exact absurd (B a z) (asy _ _ (la b y))
  subst e
  congr 1
  refine sorted_eq irr asy q j λn=>⟨λhn=>?_,λhn=>?_⟩
  ·rcases aB.mp ((h n).mp (aq _ hn)) with z | z
   ·subst z;exact absurd (la n hn) (irr n)
   ·exact z
  ·rcases aB.mp ((h n).mpr (aq _ hn)) with z | z
   ·subst z;exact absurd (B n hn) (irr n)
   ·exact z
end Toy
namespace Toy
variable {α β:Type}
end Toy
namespace L2
open PySem
abbrev Srt (t:List Str):Prop:=t.Pairwise λa b=>HT.ltS a b=true
abbrev SrtT (ts:List (List Str)):Prop:=ts.Pairwise λa b=>HT.lexS a b=true
theorem Srt.ext {l m:List Str} (hl:Srt l) (hm:Srt m) (h:∀ n,n∈l↔n∈m):l=m :=
 Toy.sorted_eq (lt:=λa b=>HT.ltS a b=true) (λa=>by rw[HT.ltS_ir];simp) (λa b h=>by rw[HT.ltS_as h];simp) hl hm h
theorem SrtT.ext {l m:List (List Str)} (hl:SrtT l) (hm:SrtT m) (h:∀ n,n∈l↔n∈m):l=m :=
 Toy.sorted_eq (lt:=λa b=>HT.lexS a b=true) (λa=>by rw[bZl];simp) (λa b h=>by rw[HT.lexS_as h];simp) hl hm h
theorem Srt.nodup {t:List Str} (h:Srt t):t.Nodup:=h.imp λ{a b} h e=>by subst e;rw[HT.ltS_ir] at h;cases h
theorem SrtT.nodup {t:List (List Str)} (h:SrtT t):t.Nodup:=h.imp λ{a b} h e=>by subst e;rw[bZl] at h;cases h
theorem dXz {t:List Str} (nd:t.Nodup) (h:t.Pairwise λx y=>leS x y=true):Srt t:=by
 induction t with
 | nil=>exact .nil
 | cons a t q =>
  rw[aW] at h;rw[bt] at nd;refine aW.mpr ⟨λb j=>?_,q nd.2 h.2⟩
  have:=h.1 b j
  unfold leS at this;rw[bT] at this;exact HT.ltS_tot this λe=>nd.1 (by rw[<- e];exact j)
theorem dQ3 {t:List (List Str)} (nd:t.Nodup) (h:t.Pairwise λx y=>leT x y=true):SrtT t:=by
 induction t with
 | nil=>exact .nil
 | cons a t q =>
  rw[aW] at h;rw[bt] at nd;refine aW.mpr ⟨λb j=>?_,q nd.2 h.2⟩
  have:=h.1 b j
  unfold leT at this;rw[bT] at this;exact HT.lexS_tot this λe=>nd.1 (by rw[<- e];exact j)
theorem aXz {l:List Str} (nd:l.Nodup):Srt (srS l):=dXz ((aZc l).nodup_iff.mpr nd) (bXl l)
theorem aXd {l:List (List Str)} (nd:l.Nodup):SrtT (srT l):=dQ3 ((aQy l).nodup_iff.mpr nd) (cJp l)
theorem mem_srS {l:List Str} {x:Str}:x∈srS l↔x∈l:=(aZc l).mem_iff
theorem mem_srT {l:List (List Str)} {x:List Str}:x∈srT l↔x∈l:=(aQy l).mem_iff
theorem fZ1 {l:List Str} (h:Srt l):srS l=l:=Srt.ext (aXz h.nodup) h λn=>mem_srS
def dd {α:Type} [DecidableEq α]:List α->List α
 | []=>[]
 | x::xs=>if x∈xs then dd xs else x::dd xs
theorem mem_dd {α:Type} [DecidableEq α] {x:α}:∀ {l:List α},x∈dd l↔x∈l
 | []=>Iff.rfl
 | y::l=>by
  unfold dd
  split
  ·next h =>
   rw[mem_dd,aB];exact⟨.inr,λz=>z.elim (λe=>by rw[e];exact h) id⟩
  ·rw[aB,aB,mem_dd]
theorem bZq {α:Type} [DecidableEq α]:∀ l:List α,(dd l).Nodup
 | []=>dG
 | y::l=>by
  unfold dd
  split
  ·exact bZq l
  ·next h=>exact bt.mpr ⟨λz=>h (mem_dd.mp z),bZq l⟩
def nms (ts:List (List Str)):List Str:=srS (dd ts.flatten)
theorem aZ2 (ts:List (List Str)):Srt (nms ts):=aXz (bZq _)
theorem mem_nms {ts:List (List Str)} {x:Str}:x∈nms ts↔∃ t∈ts,x∈t:=by
 unfold nms;rw[mem_srS,mem_dd,List.mem_flatten]
theorem fZ2 {ts:List (List Str)} {out:List Str} (h:Srt out) (m:∀ x,x∈out↔∃ t∈ts,x∈t):out=nms ts:=h.ext (aZ2 ts) λn=>(m n).trans mem_nms.symm
def mts {α:Type} [DecidableEq α] (one row:List α):Bool:=row.any λd=>decide (d∈one)
def has {α:Type} [DecidableEq α] (one row:List α):Bool:=row.all λd=>decide (d∈one)
theorem mts_iff {α:Type} [DecidableEq α] {one row:List α}:mts one row=true↔∃ x∈row,x∈one:=by unfold mts;simp
theorem eZg {α:Type} [DecidableEq α] {one row:List α}:has one row=true↔∀ x∈row,x∈one:=by unfold has;simp
def wor (ts:List (List Str)) (row:List Str):List (List Str):=ts.filter λt=>!mts t row
def wo {α:Type} [DecidableEq α] (one row:List α):List α:=one.filter λd=>!decide (d∈row)
theorem mem_wor {ts:List (List Str)} {row t:List Str}:t∈wor ts row↔t∈ts/\¬ ∃ x∈row,x∈t:=by
 unfold wor;rw[bC,bT,<- fq,mts_iff]
def Hit (row:List Str) (ts:List (List Str)):Prop:=∀ t∈ts,∃ x∈row,x∈t
open Toy (ch ch_zero ch_cons ch_mem mem_ch)
end L2
set_option maxHeartbeats 4000000
namespace L2
open PySem
structure Enc (α:Type) where
 e:α->D
 inj:∀ {x y},e x=e y->x=y
 pl:∀ x,plain (e x)=true
 dep:Nat
 ok:∀ n x y,dep<=n->okE n (e x) (e y)=true
 lt:α->α->Bool
 okl:∀ n x y,dep<=n->okL n (e x) (e y)=true
 lte:∀ n x y,dep<=n->ltN n (e x) (e y)=lt x y
def lexG {α:Type} [DecidableEq α] (lt:α->α->Bool):List α->List α->Bool
 | [],[]=>false
 | [],_::_=>true
 | _::_,[]=>false
 | x::xs,y::ys=>if x=y then lexG lt xs ys else lt x y
def strE:Enc Str where
 e:=D.str
 inj:=λh=>by injection h
 pl:=λ_=>rfl
 dep:=0
 ok:=λn x y _=>by cases n <;> rfl
 lt:=HT.ltS
 okl:=λn x y _=>by cases n <;> rfl
 lte:=λn x y _=>by cases n <;> rfl
def tupE {α:Type} [DecidableEq α] (E:Enc α):Enc (List α) where
 e:=λl=>.tup (l.map E.e)
 inj:=λ{x y} h=>by
  injection h with h
  exact bJq (λa b e=>E.inj e) h
 pl:=λl=>by
  show aZ6 (l.map E.e)=true
  induction l with
  | nil=>rfl
  | cons x l ih=>show(plain (E.e x) && aZ6 (l.map E.e))=true;rw[E.pl,ih];rfl
 dep:=E.dep + 1
 ok:=λn x y h=>by
  obtain⟨m,rfl⟩:∃ m,n=m + 1:=⟨n - 1,by lia⟩
  show((x.map E.e).zip (y.map E.e)).all (λp=>okE m p.1 p.2)=true;rw[List.zip_map,ef,br];exact λp _=>E.ok m p.1 p.2 (by lia)
 lt:=lexG E.lt
 okl:=λn x y h=>by
  obtain⟨m,rfl⟩:∃ m,n=m + 1:=⟨n - 1,by lia⟩
  show okLs (okL m) m (x.map E.e) (y.map E.e)=true
  induction x generalizing y with
  | nil=>cases y <;> rfl
  | cons a x ih =>
   cases y with
   | nil=>rfl
   | cons b y =>
    show(okE m (E.e a) (E.e b) && (if E.e a=E.e b then okLs (okL m) m (x.map E.e) (y.map E.e) else okL m (E.e a) (E.e b)))=true
    rw[E.ok m a b (by lia),Bool.true_and]
    split
    ·exact ih y
    ·exact E.okl m a b (by lia)
 lte:=λn x y h=>by
  obtain⟨m,rfl⟩:∃ m,n=m + 1:=⟨n - 1,by lia⟩
  show lexN (ltN m) (x.map E.e) (y.map E.e)=lexG E.lt x y
  induction x generalizing y with
  | nil=>cases y <;> rfl
  | cons a x ih =>
   cases y with
   | nil=>rfl
   | cons b y =>
    show(if E.e a=E.e b then lexN (ltN m) (x.map E.e) (y.map E.e) else ltN m (E.e a) (E.e b))=if a=b then lexG E.lt x y else E.lt a b
    by_cases hab:a=b
    ·subst hab;rw[if_pos rfl,if_pos rfl];exact ih y
    ·rw[if_neg λz=>hab (E.inj z),if_neg hab];exact E.lte m a b (by lia)
abbrev setE:Enc (List Str):=tupE strE
abbrev flE:Enc (List (List Str)):=tupE setE
section
variable {α:Type} [DecidableEq α] {E:Enc α}
theorem cQy:∀ l:List α,aZ6 (l.map E.e)=true
 | []=>rfl
 | x::l=>by show(plain (E.e x) && aZ6 (l.map E.e))=true;rw[E.pl,cQy l];rfl
theorem fXj {x:α} {l:List α}:E.e x∈l.map E.e↔x∈l:=by
 rw[aH];exact⟨λ⟨y,h,e⟩=>by rw[<- E.inj e];exact h,λh=>⟨x,h,rfl⟩⟩
theorem in_e {neg:Bool} {x:α} {l:List α} [dm:Decidable (x∈l)] {d:D} {S:Sto} {Q:DK} (hE:E.dep<=8) (hd:sqIs S d (l.map E.e)) (q:Q (.bl (if neg then !decide (x∈l) else decide (x∈l))) S):inD neg (E.e x) d S Q:=by
 refine⟨l.map E.e,hd,cQy l,by rw[ef,br];exact λy _=>E.ok 8 y x hE,?_⟩
 rw[decide_eq_decide.mpr (fXj (E:=E) (x:=x) (l:=l))];exact q
theorem in_t {neg:Bool} {x:α} {l:List α} [dm:Decidable (x∈l)] {d:D} {S:Sto} {Q:Bool->Sto->Prop} (hE:E.dep<=8) (hd:sqIs S d (l.map E.e)) (q:Q (if neg then !decide (x∈l) else decide (x∈l)) S):inD neg (E.e x) d S (λd S1=>∃ b,d=.bl b/\Q b S1):=in_e hE hd ⟨_,rfl,q⟩
end
def fzIs (d:D) (xs:List D):Prop:=d=.tup xs\/d=.lst xs
theorem fzIs.sq {S:Sto} {d:D} {xs:List D} (h:fzIs d xs):sqIs S d xs:=by rcases h with rfl | rfl <;> rfl
end L2
namespace Toy
open PySem L2
def aJj:SpD:=λds S Q=>∃ (α:Type) (_:DecidableEq α) (E:Enc α) (one row:List α) (d1 d2:D),ds=[d1,d2]/\E.dep<=4/\fzIs d1 (one.map E.e)/\fzIs d2 (row.map E.e)/\row.length<=9999/\Q (.bl (mts one row)) S
def aJ0:SpD:=λds S Q=>∃ (α:Type) (_:DecidableEq α) (E:Enc α) (one row:List α) (d1 d2:D),ds=[d1,d2]/\E.dep<=4/\fzIs d1 (one.map E.e)/\fzIs d2 (row.map E.e)/\row.length<=9999/\Q (.bl (has one row)) S
def aZx:SpD:=λds S Q=>∃ (α:Type) (_:DecidableEq α) (E:Enc α) (one row:List α) (d1 d2:D),ds=[d1,d2]/\E.dep<=4/\fzIs d1 (one.map E.e)/\fzIs d2 (row.map E.e)/\one.length<=9999/\Q (.tup ((wo one row).map E.e)) S
def aZ8:SpD:=λds S Q=>∃ (ts:List (List Str)) (row:List Str),ds=[.tup (ts.map tupS),tupS row]/\ts.length<=9999/\row.length<=9999/\Q (.tup ((wor ts row).map tupS)) S
end Toy
namespace L2
open PySem
theorem Srt.filter {l:List Str} (h:Srt l) (p:Str->Bool):Srt (l.filter p):=cq p h
def bXr:Str:=a7 ""
def lay (N:List Str):Nat->List (List Str)
 | 0=>[[]]
 | k + 1=>(lay N k).flatMap λrow=>(N.filter λn=>decide (row=[]) || HT.ltS (row.getLastD bXr) n).map λn=>row++[n]
theorem cQz {N:List Str} (hN:Srt N):∀ k,lay N k=Toy.ch N k
 | 0=>(Toy.ch_zero N).symm
 | 1=>by
  rw[Toy.ch_one];show([[]]:List (List Str)).flatMap _=_;simp[eE.mpr]
 | k + 2=>by
  have B:N.Pairwise λa b=>HT.ltS a b=true/\HT.ltS b a=false:=hN.imp λh=>⟨h,HT.ltS_as h⟩;rw[<- Toy.ch_ext (lt:=HT.ltS) (z:=bXr) B HT.ltS_ir k,<- cQz hN (k + 1)];show(lay N (k + 1)).flatMap _=_;refine Toy.fm_congr λrow j=>?_;rw[cQz hN (k + 1)] at j;have q:row≠[]:=λe=>by have:=(Toy.ch_mem j).1;rw[e] at this;simp at this
  unfold Toy.ext
  congr 1
  apply gf;intro n _;rw[decide_eq_false q,Bool.false_or]
theorem bJu {N:List Str} (hN:Srt N) {k:Nat} {r:List Str}:r∈lay N k↔r.length=k/\Srt r/\∀ x∈r,x∈N:=by
 rw[cQz hN];constructor
 ·intro h;obtain⟨h1,h2⟩:=Toy.ch_mem h;exact⟨h1,jl h2 hN,λx G=>h2.subset G⟩
 ·rintro⟨rfl,h2,J⟩;refine Toy.mem_ch ?_;have gen:∀ {N r:List Str},Srt N->Srt r->(∀ x∈r,x∈N)->r.Sublist N:=by
   intro N
   induction N with
   | nil =>
    intro r _ _ h;cases r with
    | nil=>exact .slnil
    | cons x r=>exact absurd (h x ao) (by simp)
   | cons a N B =>
    intro r hN D h;have j:=aW.mp hN;cases r with
    | nil=>exact List.nil_sublist _
    | cons x r =>
     have z:=aW.mp D;have tail:∀ y∈r,y∈N:=λy q=>by
      rcases aB.mp (h y (aq _ q)) with e | e
      ·subst e;have h1:=z.1 y q;rcases aB.mp (h x ao) with e2 | e2
       ·rw[e2,HT.ltS_ir] at h1;cases h1
       ·rw[HT.ltS_as (j.1 x e2)] at h1;cases h1
      ·exact e
     rcases aB.mp (h x ao) with e | e
     ·subst e;exact(B j.2 z.2 tail).cons_cons _
     ·exact(B j.2 D λy q=>by
       rcases aB.mp q with rfl | q
       ·exact e
       ·exact tail y q).cons _
  exact gen hN h2 J
theorem okT (t:List Str) (ts:List (List Str)):((ts.map tupS).all λy=>okE 8 y (tupS t))=true:=by rw[ef,br];exact λx _=>cQw x t
end L2
namespace Toy
open PySem L2
end Toy
namespace L2
open PySem
open Toy (ch ch_cons ch_zero ch_mem mem_ch)
end L2
namespace Toy
open PySem L2
end Toy
namespace L2
open PySem Toy
end L2
namespace L2
open PySem
open Toy (ch ch_cons ch_zero ch_mem mem_ch)
end L2
namespace L2
open PySem
open Toy (ch ch_cons ch_zero ch_mem mem_ch)
end L2
namespace Toy
open PySem L2
end Toy
namespace L2
open PySem
open Toy (ch ch_mem mem_ch)
end L2
namespace L2
open PySem
theorem dZv {x:Str} (h:1<=x.length):HT.ltS bXr x=true:=by
 unfold HT.ltS;refine decide_eq_true ?_;obtain⟨⟨l⟩⟩:=x;cases l with
 | nil=>exact absurd h (by decide)
 | cons c l =>
  show([]:List Nat) < c::l;exact List.nil_lt_cons _ _
def hitB (row:List Str) (ts:List (List Str)):Bool:=ts.all λt=>t.any λn=>decide (n∈row)
theorem hitB_iff {row:List Str} {ts:List (List Str)}:hitB row ts=true↔Hit row ts:=by
 unfold hitB Hit;rw[br];simp only[gx,decide_eq_true_eq];exact⟨λh t j=>let ⟨x,h1,h2⟩:=h t j;⟨x,h2,h1⟩,λh t j=>let ⟨x,h1,h2⟩:=h t j;⟨x,h2,h1⟩⟩
def bQj (N:List Str):Nat->Nat
 | 0=>0
 | m + 1=>bQj N m + (Toy.ch N m).length
theorem cZ0:∀ (N:List Str) (m:Nat),bQj N m<=2 ^ N.length
 | [],0=>by decide
 | [],1=>by decide
 | [],m + 2=>by
  have:=cZ0 [] (m + 1)
  show bQj [] (m + 1) + 0<=_;lia
 | x::N,m=>by
  have gen:∀ m,bQj (x::N) (m + 1)=bQj N m + bQj N (m + 1):=by
   intro m
   induction m with
   | zero =>
    show 0 + (Toy.ch (x::N) 0).length=0 + (0 + (Toy.ch N 0).length);rw[Toy.ch_zero,Toy.ch_zero];rfl
   | succ m j =>
    have e:(Toy.ch (x::N) (m + 1)).length=(Toy.ch N m).length + (Toy.ch N (m + 1)).length:=by rw[Toy.ch_cons,av,aj]
    show bQj (x::N) (m + 1) + (Toy.ch (x::N) (m + 1)).length=bQj N m + (Toy.ch N m).length + (bQj N (m + 1) + (Toy.ch N (m + 1)).length);rw[j,e];lia
  cases m with
  | zero=>show 0<=_;exact Nat.zero_le _
  | succ m =>
   rw[gen,aV,Nat.pow_succ];have h1:=cZ0 N m;have h2:=cZ0 N (m + 1);lia
def bQa (N:List Str) (m:Nat):List (List Str):=(aT m).flatMap (lay N)
theorem cZo (N:List Str) (m:Nat):bQa N (m + 1)=bQa N m++lay N m:=by
 unfold bQa;rw[fJ,fy];simp
theorem cZ1 {N:List Str} (hN:Srt N):∀ m,(bQa N m).length=bQj N m
 | 0=>rfl
 | m + 1=>by rw[cZo,av,cZ1 hN m,cQz hN];rfl
def extR (N:List Str) (row:List Str):List (List Str):=(N.filter λn=>decide (row=[]) || HT.ltS (row.getLastD bXr) n).map λn=>row++[n]
theorem cZ2 (N:List Str) (k:Nat):lay N (k + 1)=(lay N k).flatMap (extR N):=rfl
theorem bJv {N:List Str}:∀ k {row:List Str},row∈lay N k->row.length=k
 | 0,row,h=>by rw[aE.mp h];rfl
 | k + 1,row,h=>by
  rw[cZ2] at h;obtain⟨r,j,h1⟩:=eK.mp h;unfold extR at h1;obtain⟨n,_,rfl⟩:=aH.mp h1;rw[av,bJv k j];rfl
end L2
namespace Toy
open PySem L2
structure CollB (most:Nat) (ts:List (List Str)):Prop where
 srt:SrtT ts
 each:∀ t∈ts,Srt t/\t.length<=6
 len:ts.length<=most
 nms:(nms ts).length<=12
 ne:∀ x∈L2.nms ts,HT.ltS bXr x=true
theorem CollB.of {most:Nat} {names:List Str} {ts:List (List Str)} (hn:names.length<=12) (h1:∀ n∈names,1<=n.length) (nd:ts.Nodup) (pw:ts.Pairwise λx y=>leT x y=true) (hs:∀ t∈ts,SetOf names 6 t) (hl:ts.length<=most):CollB most ts where
 srt:=dQ3 nd pw
 each:=λt q=>⟨dXz (hs t q).1 (hs t q).2.1,(hs t q).2.2.2⟩
 len:=hl
 nms:=by
  refine Nat.le_trans ((aZ2 ts).nodup.length_le_of_subset (l₂:=names) λx z=>?_) hn;obtain⟨t,q,j⟩:=mem_nms.mp z;exact(hs t q).2.2.1 x j
 ne:=λx z=>by
  obtain⟨t,q,j⟩:=mem_nms.mp z;exact dZv (h1 x ((hs t q).2.2.1 x j))
end Toy
namespace L2
open PySem
open Toy (ch ch_mem mem_ch)
end L2
namespace L2
open PySem
def wt (r:List Str) (x:Str):List Str:=r.filter λy=>!decide (y=x)
theorem mem_wt {r:List Str} {x y:Str}:y∈wt r x↔y∈r/\y≠x:=by unfold wt;rw[bC];simp
theorem fZ3 {r:List Str} {x:Str} (h:x∈r):(wt r x).length < r.length:=by
 unfold wt;rw[List.length_filter_lt_length_iff_exists];exact⟨x,h,by simp⟩
theorem fZ4 {r:List Str} {x:Str} (h:Srt r):Srt (wt r x):=cq _ h
theorem eZh {ts:List (List Str)} {r:List Str} (h:Hit r ts) {x:Str} (hx:x∉nms ts):Hit (wt r x) ts:=λt q=>by
 obtain⟨y,z,j⟩:=h t q;exact⟨y,mem_wt.mpr ⟨z,λe=>hx (e ▸ mem_nms.mpr ⟨t,q,j⟩)⟩,j⟩
theorem fZ5 {ts:List (List Str)} {r:List Str} (h:Hit r ts):[]∉ts:=λz=>by
 obtain⟨x,_,hx⟩:=h [] z;cases hx
open Toy
theorem eZi {P:Prop} [Decidable P] (h:P):D.bl (if true=true then !decide P else decide P)=D.bl false:=by rw[decide_eq_true h];rfl
end L2
set_option maxHeartbeats 1000000
namespace L2
open PySem Toy
end L2
set_option maxHeartbeats 4000000
namespace L2
open PySem Toy
section
variable {α:Type} [DecidableEq α] (ok:List α->Bool)
variable {ok}
variable {lt:α->α->Bool}
variable (ok lt) in
end
end L2
namespace Toy
open PySem L2
end Toy
namespace L2
open PySem Toy
end L2
set_option maxHeartbeats 1000000
namespace Toy
open PySem L2
end Toy
namespace L2
open PySem Toy
end L2
namespace L2
open PySem PySem.Spec PyProof.Rows
end L2
set_option maxHeartbeats 4000000
namespace L2
open PySem
structure Mn (ts:List (List Str)) (r:List Str):Prop where
 srt:Srt r
 hit:Hit r ts
 need:∀ x∈r,¬ Hit (wt r x) ts
structure IsL (ts out:List (List Str)):Prop where
 srt:SrtT out
 all:∀ r,r∈out↔Mn ts r
theorem IsL.uniq {ts a b:List (List Str)} (h:IsL ts a) (g:IsL ts b):a=b:=SrtT.ext h.srt g.srt λr=>(h.all r).trans (g.all r).symm
theorem Mn.sub {ts:List (List Str)} {r:List Str} (h:Mn ts r) {x:Str} (hx:x∈r):x∈nms ts:=aJ λz=>h.need x hx (eZh h.hit z)
theorem dQ4 {ts:List (List Str)} (h:[]∈ts):IsL ts []:=⟨d6,λr=>⟨λz=>absurd z (by simp),λm=>absurd h (fZ5 m.hit)⟩⟩
theorem eZj:IsL [] [[]]:=⟨bJ _ _,λr=>by
 rw[aE];constructor
 ·rintro rfl;exact⟨d6,λt j=>absurd j (by simp),λx hx=>by cases hx⟩
 ·intro m;cases r with
  | nil=>rfl
  | cons x r=>exact absurd (λt j=>absurd j (by simp)) (m.need x ao)⟩
theorem Mn.congr {ts us:List (List Str)} {r:List Str} (h:Mn ts r) (e:∀ r',(∀ x∈r',x∈r)->(Hit r' ts↔Hit r' us)):Mn us r :=
 ⟨h.srt,(e r λ_ z=>z).mp h.hit,λx q z=>h.need x q ((e (wt r x) λy j=>(mem_wt.mp j).1).mpr z)⟩
def lk (ts:List (List Str)) (x:Str):List (List Str):=(ts.filter λt=>decide (x∈t)).map λt=>wt t x
theorem mem_lk {ts:List (List Str)} {x:Str} {u:List Str}:u∈lk ts x↔∃ t∈ts,x∈t/\u=wt t x:=by
 unfold lk;rw[aH];constructor
 ·rintro⟨t,j,rfl⟩;obtain⟨h1,h2⟩:=bC.mp j;exact⟨t,h1,of_decide_eq_true h2,rfl⟩
 ·rintro⟨t,h1,h2,rfl⟩;exact⟨t,bC.mpr ⟨h1,decide_eq_true h2⟩,rfl⟩
theorem mem_w1 {ts:List (List Str)} {x:Str} {t:List Str}:t∈wor ts [x]↔t∈ts/\x∉t:=by rw[mem_wor];simp
theorem hit_app {a b:List (List Str)} {r:List Str}:Hit r (a++b)↔Hit r a/\Hit r b:=by
 unfold Hit;constructor
 ·exact λh=>⟨λt j=>h t (bZ _ j),λt j=>h t (aU _ j)⟩
 ·rintro⟨h1,h2⟩ t j;rcases ar.mp j with h | h
  ·exact h1 t h
  ·exact h2 t h
theorem bZr {ts:List (List Str)} {x:Str} {r:List Str} (hx:x∉r):Hit r ts↔Hit r (wor ts [x]++lk ts x):=by
 rw[hit_app];constructor
 ·intro h;refine⟨λt z=>h t (mem_w1.mp z).1,λu D=>?_⟩;obtain⟨t,z,q,rfl⟩:=mem_lk.mp D;obtain⟨y,B,j⟩:=h t z;exact⟨y,B,mem_wt.mpr ⟨j,λe=>hx (e ▸ B)⟩⟩
 ·rintro⟨h1,h2⟩ t z
  by_cases q:x∈t
  ·obtain⟨y,B,j⟩:=h2 _ (mem_lk.mpr ⟨t,z,q,rfl⟩);exact⟨y,B,(mem_wt.mp j).1⟩
  ·exact h1 t (mem_w1.mpr ⟨z,q⟩)
theorem dQ5 {ts:List (List Str)} {x:Str} {r:List Str} (hs:Srt (x::r)):Mn ts (x::r)↔Mn (wor ts [x]) r/\¬ Hit r (lk ts x):=by
 have G:x∉r:=(bt.mp (Srt.nodup hs)).1;have up:∀ {B:List Str},Hit B (wor ts [x])->Hit (x::B) ts:=λ{B} h t J=>by
  by_cases D:x∈t
  ·exact⟨x,ao,D⟩
  ·obtain⟨y,j,q⟩:=h t (mem_w1.mpr ⟨J,D⟩);exact⟨y,aq _ j,q⟩
 have down:∀ {B:List Str},Hit (x::B) ts->Hit B (wor ts [x]):=λ{B} h t J=>by
  obtain⟨h1,h2⟩:=mem_w1.mp J;obtain⟨y,j,q⟩:=h t h1;rcases aB.mp j with rfl | j
  ·exact absurd q h2
  ·exact⟨y,j,q⟩
 have ex:wt (x::r) x=r:=by
  unfold wt;rw[cN,if_neg (by simp)]
  exact eE.mpr λy j=>by simp;rintro rfl;exact G j
 have L:∀ y∈r,wt (x::r) y=x::wt r y:=λy j=>by
  unfold wt;rw[cN,if_pos (by simp;rintro rfl;exact G j)]
 constructor
 ·intro m;refine⟨⟨(aW.mp hs).2,down m.hit,λy j z=>m.need y (aq _ j) ?_⟩,λz=>m.need x ao ?_⟩
  ·rw[L y j];exact up z
  ·rw[ex,bZr G,hit_app];exact⟨down m.hit,z⟩
 ·rintro⟨m,hn⟩;refine⟨hs,up m.hit,λy j z=>?_⟩;rcases aB.mp j with rfl | j
  ·rw[ex,bZr G,hit_app] at z;exact hn z.2
  ·rw[L y j] at z;exact m.need y j (down z)
theorem aJ1 {ts us:List (List Str)} {x:Str} {r:List Str} (hu:∀ r,Hit r us↔Hit r (wor ts [x]++lk ts x)) (hxu:x∉nms us):Mn us r↔Mn ts r/\x∉r:=by
 constructor
 ·intro m;have j:x∉r:=λz=>hxu (m.sub z);exact⟨m.congr λq h=>by rw[hu,<- bZr λz=>j (h x z)],j⟩
 ·rintro⟨m,j⟩;exact m.congr λq h=>by rw[hu,<- bZr λz=>j (h x z)]
theorem dZw {ts us a b:List (List Str)} {x:Str} (hne:lk ts x≠[]) (hsm:∀ y∈nms ts,y=x\/HT.ltS x y=true) (hu:∀ r,Hit r us↔Hit r (wor ts [x]++lk ts x)) (hxu:x∉nms us) (ha:IsL (wor ts [x]) a) (hb:IsL us b) :
  IsL ts ((a.filter λr=>!hitB r (lk ts x)).map (λr=>x::r)++b):=by
 have low:∀ r∈a,∀ y∈r,HT.ltS x y=true:=λr O y hy=>by
  obtain⟨t,N,G⟩:=mem_nms.mp (((ha.all r).mp O).sub hy);obtain⟨h1,h2⟩:=mem_w1.mp N;exact(hsm y (mem_nms.mpr ⟨t,h1,G⟩)).resolve_left λe=>h2 (e ▸ G)
 have j:∀ r,(!hitB r (lk ts x))=true↔¬ Hit r (lk ts x):=λr=>by rw[bT,<- fq,hitB_iff]
 refine⟨bf.mpr ⟨?_,hb.srt,λu J v L=>?_⟩,λr=>?_⟩
 ·rw[bH];refine(cq _ ha.srt).imp λ{p q} h=>?_;rw[HT.lexS_cons,if_pos rfl];exact h
 ·obtain⟨r,_,rfl⟩:=aH.mp J;obtain⟨m,hx⟩:=(aJ1 hu hxu).mp ((hb.all v).mp L);cases v with
  | nil =>
   have h1:=(hu []).mp ((hb.all []).mp L).hit;have h2:=(hit_app.mp h1).2;cases e:lk ts x with
   | nil=>exact absurd e hne
   | cons u us =>
    obtain⟨y,hy,_⟩:=h2 u (e ▸ ao);cases hy
  | cons y v =>
   have D:x≠y:=λe=>hx (e ▸ ao);rw[HT.lexS_cons,if_neg D];exact(hsm y (m.sub ao)).resolve_left (cf D)
 ·rw[ar,aH];constructor
  ·rintro(⟨B,h0,rfl⟩ | h)
   ·obtain⟨h1,h2⟩:=bC.mp h0;have m:=(ha.all B).mp h1;exact(dQ5 (aW.mpr ⟨low B h1,m.srt⟩)).mpr ⟨m,(j B).mp h2⟩
   ·exact((aJ1 hu hxu).mp ((hb.all r).mp h)).1
  ·intro m
   by_cases hx:x∈r
   ·cases r with
    | nil=>cases hx
    | cons y B =>
     have e:y=x:=aJ λz=>by
      have h1:=(hsm y (m.sub ao)).resolve_left z;rcases aB.mp hx with e | h2
      ·exact z e.symm
      ·have h3:=(aW.mp m.srt).1 x h2;rw[HT.ltS_as h1] at h3;cases h3
     subst e;obtain⟨h1,h2⟩:=(dQ5 m.srt).mp m;exact .inl ⟨B,bC.mpr ⟨(ha.all B).mpr h1,(j B).mpr h2⟩,rfl⟩
   ·exact .inr ((hb.all r).mpr ((aJ1 hu hxu).mpr ⟨m,hx⟩))
theorem dQ6 {a b l:List (List Str)} (hs:∀ t∈a,t∈b\/∃ u∈l,∀ y∈u,y∈t) (hb:∀ t∈b,t∈a) (r:List Str):Hit r (b++l)↔Hit r (a++l):=by
 rw[hit_app,hit_app];constructor
 ·rintro⟨h1,h2⟩;refine⟨λt q=>?_,h2⟩;rcases hs t q with h | ⟨u,B,h⟩
  ·exact h1 t h
  ·obtain⟨y,z,j⟩:=h2 u B;exact⟨y,z,h y j⟩
 ·exact λ⟨h1,h2⟩=>⟨λt q=>h1 t (hb t q),h2⟩
theorem Srt.sublist {r N:List Str} (hr:Srt r) (hN:Srt N) (h:∀ x∈r,x∈N):r∈lay N r.length:=(bJu hN).mpr ⟨rfl,hr,h⟩
theorem aZw {ts out:List (List Str)} (h:IsL ts out) {k:Nat} (hk:(nms ts).length<=k):out.length<=2 ^ k:=by
 have h1:out.length<=(bQa (nms ts) ((nms ts).length + 1)).length:=h.srt.nodup.length_le_of_subset λr q=>by
  have m:=(h.all r).mp q;refine eK.mpr ⟨r.length,aP.mpr ?_,Srt.sublist m.srt (aZ2 ts) λx j=>m.sub j⟩
  have:=(Srt.nodup m.srt).length_le_of_subset λx j=>m.sub j
  lia
 rw[cZ1 (aZ2 ts)] at h1;exact Nat.le_trans h1 (Nat.le_trans (cZ0 _ _) (Nat.pow_le_pow_right (by decide) hk))
theorem bQb {ts out:List (List Str)} (h:IsL ts out) {r:List Str} (hr:r∈out) {k:Nat} (hk:(nms ts).length<=k):r.length<=k:=by
 have m:=(h.all r).mp hr;exact Nat.le_trans ((Srt.nodup m.srt).length_le_of_subset λx j=>m.sub j) hk
theorem eZk {ts:List (List Str)} {row:List Str}:(ts.map λt=>mts t row).all id=hitB row ts:=by
 rw[eU,hitB_iff,ef,br];unfold Hit;refine forall_congr' λt=>forall_congr' λ_=>?_;show mts t row=true↔_;rw[mts_iff]
def hasS (row:List Str) (ts:List (List Str)):Bool:=ts.any λt=>has row t
theorem hasS_iff {row:List Str} {ts:List (List Str)}:hasS row ts=true↔∃ t∈ts,∀ x∈t,x∈row:=by
 unfold hasS;rw[gx];simp only[eZg]
def etm (ts:List (List Str)):Prop:=ts.Pairwise λa b=>∃ x∈a,x∈b
theorem fZ6 {t:List Str} {x:Str}:wo t [x]=wt t x:=by
 unfold wo wt;refine gf λy _=>?_;simp
theorem eZl {ts:List (List Str)} {x:Str}:((ts.filter λt=>has t [x]).map λt=>wo t [x])=lk ts x:=by
 unfold lk;have e:(ts.filter λt=>has t [x])=ts.filter λt=>decide (x∈t):=gf λt _=>by unfold has;simp
 rw[e];exact fx λt _=>fZ6
theorem fZ7 {x:Str} {t u:List Str} (ht:Srt t) (hu:Srt u) (h1:x∈t) (h2:x∈u) (e:wt t x=wt u x):t=u:=ht.ext hu λn=>by
 have:=congrArg (λl=>n∈l) e
 have h:n∈wt t x↔n∈wt u x:=by rw[e]
 rw[mem_wt,mem_wt] at h
 by_cases hn:n=x
 ·subst hn;exact⟨λ_=>h2,λ_=>h1⟩
 ·exact⟨λz=>(h.mp ⟨z,hn⟩).1,λz=>(h.mpr ⟨z,hn⟩).1⟩
theorem dZx {ts:List (List Str)} {x:Str} (nd:ts.Nodup) (hs:∀ t∈ts,Srt t):(lk ts x).Nodup:=by
 unfold lk g8;rw[bH];refine bz ?_ (cq _ nd);intro a b z q j e;obtain⟨a1,a2⟩:=bC.mp z;obtain⟨b1,b2⟩:=bC.mp q;exact j (fZ7 (hs a a1) (hs b b1) (of_decide_eq_true a2) (of_decide_eq_true b2) e)
def nxt (ts:List (List Str)) (x:Str):List (List Str):=((wor ts [x]).filter λt=>!hasS t (srT (lk ts x)))++srT (lk ts x)
theorem eZm {ts:List (List Str)} {x:Str}:(nxt ts x).length<=ts.length:=by
 unfold nxt;rw[av,(aQy _).length_eq];have h0:(lk ts x).length=(ts.filter λt=>decide (x∈t)).length:=by unfold lk;rw[aj]
 rw[h0];have h1:=cU (λt=>!hasS t (srT (lk ts x))) (wor ts [x]);have h2:(wor ts [x]).length + (ts.filter λt=>decide (x∈t)).length=ts.length:=by
  unfold wor;clear h1 h0
  induction ts with
  | nil=>rfl
  | cons t ts j =>
   rw[cN,cN]
   by_cases h:x∈t
   ·have e:mts t [x]=true:=by rw[mts_iff];exact⟨x,by simp,h⟩
    rw[e,if_neg (by simp),if_pos (by simpa using h),aV,aV]
    lia
   ·have e:mts t [x]=false:=by rw[<- fq,mts_iff];simpa using h
    rw[e,if_pos (by simp),if_neg (by simpa using h),aV,aV]
    lia
 lia
theorem mem_nxt {ts:List (List Str)} {x:Str} {t:List Str}:t∈nxt ts x↔(t∈wor ts [x]/\¬ ∃ u∈lk ts x,∀ y∈u,y∈t)\/t∈lk ts x:=by
 unfold nxt;rw[ar,bC,mem_srT,bT,<- fq,hasS_iff];simp only[mem_srT]
theorem dQ7 {ts:List (List Str)} {x:Str} (nd:ts.Nodup) (hs:∀ t∈ts,Srt t):(nxt ts x).Nodup:=by
 unfold nxt;rw[cz];refine⟨cq _ (cq _ nd),(aQy _).nodup_iff.mpr (dZx nd hs),λa z b q e=>?_⟩;subst e;obtain⟨_,h2⟩:=bC.mp z;rw[bT,<- fq,hasS_iff] at h2;exact h2 ⟨a,q,λy j=>j⟩
theorem eZn {ts:List (List Str)} {x:Str} (r:List Str):Hit r (srT (nxt ts x))↔Hit r (wor ts [x]++lk ts x):=by
 have e:Hit r (srT (nxt ts x))↔Hit r (((wor ts [x]).filter λt=>!hasS t (srT (lk ts x)))++lk ts x):=by
  unfold Hit;constructor
  ·intro h t j;refine h t (mem_srT.mpr ?_);unfold nxt;rcases ar.mp j with h | h
   ·exact bZ _ h
   ·exact aU _ (mem_srT.mpr h)
  ·intro h t j;refine h t ?_
   have:=mem_srT.mp j
   unfold nxt at this;rcases ar.mp this with h | h
   ·exact bZ _ h
   ·exact aU _ (mem_srT.mp h)
 rw[e];refine dQ6 (λt j=>?_) (λt j=>(bC.mp j).1) r
 by_cases h:hasS t (srT (lk ts x))=true
 ·obtain⟨u,q,h2⟩:=hasS_iff.mp h;exact .inr ⟨u,mem_srT.mp q,h2⟩
 ·exact .inl (bC.mpr ⟨j,by simpa using h⟩)
theorem dQ8 {ts:List (List Str)} {x y:Str} (h:y∈nms (srT (nxt ts x))):y∈nms ts/\y≠x:=by
 obtain⟨t,B,j⟩:=mem_nms.mp h;rcases mem_nxt.mp (mem_srT.mp B) with⟨h1,_⟩ | h1
 ·obtain⟨h2,q⟩:=mem_w1.mp h1;exact⟨mem_nms.mpr ⟨t,h2,j⟩,λe=>q (e ▸ j)⟩
 ·obtain⟨u,z,_,rfl⟩:=mem_lk.mp h1;obtain⟨h2,q⟩:=mem_wt.mp j;exact⟨mem_nms.mpr ⟨u,z,h2⟩,q⟩
theorem dZy {ts:List (List Str)} {x:Str} {k:Nat} (hs:∀ t∈ts,Srt t/\t.length<=k):∀ t∈srT (nxt ts x),Srt t/\t.length<=k:=λt q=>by
 rcases mem_nxt.mp (mem_srT.mp q) with⟨h1,_⟩ | h1
 ·exact hs t (mem_w1.mp h1).1
 ·obtain⟨u,j,_,rfl⟩:=mem_lk.mp h1;exact⟨fZ4 (hs u j).1,Nat.le_trans (cU _ _) (hs u j).2⟩
theorem cZp {ts:List (List Str)} {x:Str} {t':List Str} (hs:SrtT ts) (he:∀ t∈ts,Srt t) (hn:[]∉ts) (hh:ts.head?=some (x::t')):∀ y∈nms ts,y=x\/HT.ltS x y=true:=by
 intro y G;obtain⟨u,D,q⟩:=mem_nms.mp G;cases ts with
 | nil=>cases hh
 | cons t0 ts =>
  cases hh;cases u with
  | nil=>exact absurd D hn
  | cons z u =>
   have j:z=y\/HT.ltS z y=true:=by
    rcases aB.mp q with e | h
    ·exact .inl e.symm
    ·exact .inr ((aW.mp (he _ D)).1 y h)
   have B:z=x\/HT.ltS x z=true:=by
    rcases aB.mp D with e | h
    ·cases e;exact .inl rfl
    ·have:=(aW.mp hs).1 _ h
     rw[HT.lexS_cons] at this
     by_cases e:x=z
     ·exact .inl e.symm
     ·rw[if_neg e] at this;exact .inr this
   rcases B with rfl | h1
   ·rcases j with rfl | h2
    ·exact .inl rfl
    ·exact .inr h2
   ·rcases j with rfl | h2
    ·exact .inr h1
    ·exact .inr (HT.ltS_tr h1 h2)
theorem dZz {r:List Str} {l:List (List Str)}:hitB r (srT l)=hitB r l:=by
 rw[eU,hitB_iff,hitB_iff];unfold Hit;exact⟨λh t j=>h t (mem_srT.mpr j),λh t j=>h t (mem_srT.mp j)⟩
theorem bXs {ts us:List (List Str)} {x:Str} (h:∀ y∈nms us,y∈nms ts/\y≠x) (hx:x∈nms ts):(nms us).length < (nms ts).length :=
 Nat.lt_of_le_of_lt ((aZ2 us).nodup.length_le_of_subset λy j=>mem_wt.mpr (h y j)) (fZ3 hx)
theorem dX0 {ts:List (List Str)} {x y:Str} (h:y∈nms (wor ts [x])):y∈nms ts/\y≠x:=by
 obtain⟨t,q,j⟩:=mem_nms.mp h;obtain⟨h1,h2⟩:=mem_w1.mp q;exact⟨mem_nms.mpr ⟨t,h1,j⟩,λe=>h2 (e ▸ j)⟩
open Toy
theorem dX1 (ts:List (List Str)) (i:Nat):cutD (ts.map tupS) none (some (i:Int))=(ts.take i).map tupS:=by
 show((ts.map tupS).drop 0).take (HT.sIx (ts.map tupS).length (ts.map tupS).length (some ((i:Nat):Int)) - 0)=_;rw[HT.sIx_nat,fZ,Nat.sub_zero,List.map_take];rcases Nat.le_total i (ts.map tupS).length with h | h
 ·rw[Nat.min_eq_left h]
 ·rw[Nat.min_eq_right h,dX,bE h]
def etB (ts:List (List Str)) (i:Nat):List Bool:=(aT i).flatMap λa=>(ts.take a).map λo=>mts (ts.getD a []) o
theorem cZ3 (ts:List (List Str)) (i:Nat):etB ts (i + 1)=etB ts i++(ts.take i).map λo=>mts (ts.getD i []) o:=by
 unfold etB;rw[fJ,fy];simp
theorem dQ9 (ts:List (List Str)) (hl:ts.length<=20):∀ i,(etB ts i).length<=20 * i
 | 0=>Nat.le_refl _
 | i + 1=>by
  rw[cZ3,av,aj,aQ]
  have:=dQ9 ts hl i
  lia
theorem eZo (ts:List (List Str)):(etB ts ts.length).all id=true↔etm ts:=by
 unfold etm;rw[br,cr];have get:∀ {a:Nat} (h:a < ts.length),ts.getD a []=ts[a]:=λ{a} h=>by rw[ah,af h];rfl
 constructor
 ·intro h i j hi z G
  have:mts (ts.getD j []) ts[i]∈etB ts ts.length:=by
   unfold etB;refine eK.mpr ⟨j,aP.mpr z,aH.mpr ⟨ts[i],?_,rfl⟩⟩;rw[ij];exact⟨i,by lia,rfl⟩
  have h2:=h _ this;rw[get z] at h2;exact mts_iff.mp h2
 ·intro h b D;unfold etB at D;obtain⟨j,z,h1⟩:=eK.mp D;obtain⟨o,B,rfl⟩:=aH.mp h1;rw[ij] at B;obtain⟨i,hi,rfl⟩:=B;have q:=aP.mp z;show mts _ _=true;rw[get q,mts_iff];exact h i j (by lia) q (by lia)
def dX2 (ts:List (List Str)):Prop:=ts≠[]/\[]∉ts/\etm ts/\∀ r,Mn ts r->∃ t∈ts,∀ x∈t,x∈r
end L2
set_option maxHeartbeats 1000000
namespace L2
open PySem Toy
end L2
namespace L2
open PySem PySem.Spec PyProof.Rows
end L2
set_option maxHeartbeats 4000000
namespace Toy
open PySem L2
end Toy
set_option maxHeartbeats 1000000
namespace L2
open PySem Toy
def tr (ns ms:List Str) (n:Str):Str:=ms.getD (ns.idxOf n) n
theorem fZ8 {ns ms:List Str} (hl:ms.length=ns.length) {n:Str} (hn:n∈ns):∃ h:ns.idxOf n < ms.length,tr ns ms n=ms[ns.idxOf n]:=by
 have h:ns.idxOf n < ms.length:=by rw[hl];exact gT hn
 refine⟨h,?_⟩;unfold tr;rw[ah,af h];rfl
theorem fZ9 {ns ms:List Str} (hl:ms.length=ns.length) {n:Str} (hn:n∈ns):tr ns ms n∈ms:=by
 obtain⟨h,e⟩:=fZ8 hl hn;rw[e];exact cM h
theorem bZs {ns ms:List Str} (hl:ms.length=ns.length) (nm:ms.Nodup) {n:Str} (hn:n∈ns):tr ms ns (tr ns ms n)=n:=by
 obtain⟨h,e⟩:=fZ8 hl hn;have e2:ms.idxOf (tr ns ms n)=ns.idxOf n:=by rw[e];exact nm.idxOf_getElem _ h
 unfold tr;unfold tr at e2;rw[e2,ah,af (gT hn)];show ns[ns.idxOf n]=n;exact List.getElem_idxOf _
theorem dQa {ns ms:List Str} (hl:ms.length=ns.length) (nm:ms.Nodup) {a b:Str} (ha:a∈ns) (hb:b∈ns) (e:tr ns ms a=tr ns ms b):a=b:=by
 rw[<- bZs hl nm ha,e,bZs hl nm hb]
def cl (ns ms:List Str) (t:List Str):List Str:=srS (t.map (tr ns ms))
section
variable {ns ms:List Str} (hl:ms.length=ns.length) (nn:ns.Nodup) (nm:ms.Nodup)
include hl nm
theorem fXk {t:List Str} (nt:t.Nodup) (ht:∀ n∈t,n∈ns):(t.map (tr ns ms)).Nodup:=bH.mpr (bz (λ{a b} q j n e=>n (dQa hl nm (ht a q) (ht b j) e)) nt)
theorem bXt {t:List Str} (nt:t.Nodup) (ht:∀ n∈t,n∈ns):Srt (cl ns ms t):=aXz (fXk hl nm nt ht)
theorem aZ3 {t:List Str} {x:Str}:x∈cl ns ms t↔∃ n∈t,tr ns ms n=x:=by unfold cl;rw[mem_srS,aH]
theorem cZ4 {t:List Str} (ht:∀ n∈t,n∈ns) {x:Str} (hx:x∈cl ns ms t):x∈ms:=by
 obtain⟨n,hn,rfl⟩:=(aZ3 hl nm).mp hx;exact fZ9 hl (ht n hn)
include nn in
theorem bJw {t:List Str} (st:Srt t) (ht:∀ n∈t,n∈ns):cl ms ns (cl ns ms t)=t:=by
 refine Srt.ext (bXt hl.symm nn (bXt hl nm st.nodup ht).nodup λx j=>cZ4 hl nm ht j) st λx=>?_;rw[aZ3 hl.symm nn];constructor
 ·rintro⟨y,q,rfl⟩;obtain⟨n,hn,rfl⟩:=(aZ3 hl nm).mp q;rw[bZs hl nm (ht n hn)];exact hn
 ·intro j;exact⟨tr ns ms x,(aZ3 hl nm).mpr ⟨x,j,rfl⟩,bZs hl nm (ht x j)⟩
include nn in
end
end L2
namespace L2
open PySem PySem.Spec PyProof.Rows
def getG {β:Type} (kvs:List (Key × β)) (key:Key):Option β:=(kvs.find? λkv=>decide (kv.1=key)).map (·.2)
section
variable {X:Cx} {K:Fg} {k:Nat} {pos:Pos} {o i:Expr} {td ty:ED}
theorem dX3 {M:Am} {H:Hp} {key:Key} {d:D} {ks:List (Key × V)} {kvs:List (Key × D)} (l:bb (λ(p:Key × V) (q:Key × D)=>p.1=q.1/\RepV K M H q.2 p.2) ks kvs) (h:getG kvs key=some d):∃ v,valV ks key=some v/\RepV K M H d v:=by
 induction l with
 | nil=>cases h
 | @cons a b as bs j _ G =>
  by_cases e:b.1=key
  ·have:getG (b::bs) key=some b.2:=by unfold getG;rw[cV,decide_eq_true e];rfl
   rw[this] at h;injection h with h
   subst h;exact⟨a.2,bZk (j.1.trans e),j.2⟩
  ·have:getG (b::bs) key=getG bs key:=by unfold getG;rw[cV,decide_eq_false e]
   rw[this] at h;obtain⟨v,J,B⟩:=G h;refine⟨v,?_,B⟩;rw[<- J];have L:a.1≠key:=λz=>e (j.1 ▸ z);simp[valV,cV,L]
def dDGet (td ty:ED):ED:=fun Γ S Q=>td Γ S λo S1=>ty Γ S1 λy S2=>match o with
 | .ref a=>∃ kvs key d,S2 a=some (.dk kvs)/\dkey y=some key/\getG kvs key=some d/\Q d S2
 | _=>False
theorem fZa (hr:Room k X.A) (ho:PD K X o td) (hi:PD K X i ty) (hs:NoSl i:=by intro _ _;rfl):PD K X (.Subscript o i pos) (dDGet td ty):=.of (eZ0 (lt10 hr) ho.o hi.o hs) fun σ H Q G=>G.el λF S Γ QD r g q c =>
 ⟨F,S,Γ,_,r,g,q,λx od H2 S2 B N v2 O=>⟨F,S2,Γ,_,N,g.ext B,O,λy yd H3 S3 z D J j=>by
  cases od with
  | ref a =>
   obtain⟨U,key,d,hS,hk,hg,j⟩:=j;obtain⟨Y,hu,R⟩:=D.obj a _ hS;obtain⟨v,Z,L⟩:=dX3 R hg;refine⟨a,v,rref (v2.ext z),.inl ⟨Y,key,.inl hu,dZm J hk,Z.symm⟩,c v d H3 S3 (B.trans z) D L j⟩
  | _=>exact j.elim⟩⟩
end
end L2
namespace L2
open PySem Toy
abbrev zipK (ns ms:List Str):List (Key × D):=(ns.map (c5:Str->Key)).zip (ms.map D.str)
theorem dQb:∀ (ns ms:List Str) (n:Str),ms.length=ns.length->n∈ns->getG (zipK ns ms) (.inr n)=some (.str (tr ns ms n))
 | [],_,n,_,h=>by cases h
 | x::ns,[],n,h,_=>by cases h
 | x::ns,m::ms,n,h,hn=>by
  by_cases e:x=n
  ·subst e;unfold tr getG zipK;simp
  ·have j:n∈ns:=by
    rcases aB.mp hn with z | z
    ·exact absurd z.symm e
    ·exact z
   have:=dQb ns ms n (by simpa using h) j
   have e1:getG (zipK (x::ns) (m::ms)) (.inr n)=getG (zipK ns ms) (.inr n):=by
    have B:¬ ((c5 x:Key)=.inr n):=λz=>e (c5.inj z);show((List.find? (λq:Key × D=>decide (q.1=.inr n)) ((c5 x,D.str m)::zipK ns ms)).map (·.2))=_;rw[cV,decide_eq_false B];rfl
   have e2:tr (x::ns) (m::ms) n=tr ns ms n:=by
    unfold tr;rw[List.idxOf_cons]
    have:(x == n)=false:=by simpa using e
    rw[this];rfl
   rw[e1,e2,this]
end L2
set_option maxHeartbeats 4000000
namespace L2
open PySem
def fewR (r:List Str):List (List Str):=(aT r.length).map λi=>r.take i++r.drop (i + 1)
def dX4 (ts:List (List Str)) (r:List Str):Bool:=hitB r ts && !((fewR r).any λo=>hitB o ts)
theorem fZb {r:List Str} (nd:r.Nodup) {i:Nat} (hi:i < r.length):wt r r[i]=r.take i++r.drop (i + 1):=by
 have e:r=r.take i++r[i]::r.drop (i + 1):=by rw[<- bY hi,bj]
 have j:=nd;rw[e,cz] at j;obtain⟨_,B,z⟩:=j;unfold wt;generalize r[i]=x at *
 conv=>lhs;rw[e]
 rw[List.filter_append,cN,if_neg (by simp),eE.mpr,eE.mpr]
 ·intro y q
  have:=(bt.mp B).1
  simp;rintro rfl;exact this q
 ·intro y q
  have:=z y q x ao
  simpa using this
theorem bXu {N:List Str} (hN:N.Nodup):∀ k,(lay N k).Nodup
 | 0=>bt.mpr ⟨by simp,dG⟩
 | k + 1=>by
  rw[cZ2];refine gp.mpr ⟨λrow _=>?_,gb (λ{a b} j=>?_) (bXu hN k)⟩
  ·unfold extR;refine bH.mpr (gb (λ{x y} h e=>h ?_) (cq _ hN))
   have:=iZ e
   simpa using this
  ·intro x z y q e;unfold extR at z q;obtain⟨n,_,rfl⟩:=aH.mp z;obtain⟨m,_,rfl⟩:=aH.mp q;exact j (List.append_inj_left' e rfl)
theorem bJx {N:List Str} (hN:N.Nodup) (m:Nat):(bQa N m).Nodup:=by
 unfold bQa;refine gp.mpr ⟨λk _=>bXu hN k,gb (λ{a b} z x q y j e=>?_) iL⟩
 have:=bJv a q
 have:=bJv b j
 subst e;lia
theorem dQc {N:List Str} (hN:Srt N) {r:List Str}:r∈bQa N (N.length + 1)↔Srt r/\∀ x∈r,x∈N:=by
 unfold bQa;rw[eK];constructor
 ·rintro⟨k,_,h⟩;exact((bJu hN).mp h).2
 ·rintro⟨h1,h2⟩;refine⟨r.length,aP.mpr ?_,(bJu hN).mpr ⟨rfl,h1,h2⟩⟩
  have:=h1.nodup.length_le_of_subset h2
  lia
theorem cZ5 {ts:List (List Str)} {r:List Str} (hr:Srt r):dX4 ts r=true↔Mn ts r:=by
 unfold dX4;rw[bm,hitB_iff,bT,List.any_eq_false];constructor
 ·rintro⟨h1,h2⟩;refine⟨hr,h1,λx j z=>?_⟩;obtain⟨i,hi,rfl⟩:=bB j;rw[fZb hr.nodup hi] at z;exact h2 _ (aH.mpr ⟨i,aP.mpr hi,rfl⟩) (hitB_iff.mpr z)
 ·intro m;refine⟨m.hit,λo q z=>?_⟩;obtain⟨i,hi,rfl⟩:=aH.mp q;have hi:=aP.mp hi;refine m.need r[i] (cM hi) ?_;rw[fZb hr.nodup hi];exact hitB_iff.mp z
theorem dX5 {N:List Str} {ts:List (List Str)} (hN:Srt N) (hs:∀ x∈nms ts,x∈N):IsL ts (srT ((bQa N (N.length + 1)).filter (dX4 ts))):=by
 refine⟨aXd (cq _ (bJx hN.nodup _)),λr=>?_⟩;rw[mem_srT,bC,dQc hN];constructor
 ·rintro⟨⟨h1,_⟩,h2⟩;exact(cZ5 h1).mp h2
 ·intro m;exact⟨⟨m.srt,λx j=>hs x (m.sub j)⟩,(cZ5 m.srt).mpr m⟩
theorem bZt {ts:List (List Str)} {N:List Str} (h:∀ t∈ts,∀ x∈t,x∈N):(nms ts).length<=N.length:=(aZ2 ts).nodup.length_le_of_subset λx q=>by
 obtain⟨t,z,j⟩:=mem_nms.mp q;exact h t z x j
end L2
set_option maxHeartbeats 1000000
namespace L2
open PySem Toy
theorem mn_iff {ts:List (List Str)} {r:List Str}:Mn ts r↔Srt r/\Hit r ts/\∀ x∈r,∃ t∈ts,∀ y∈r,y∈t->y=x:=by
 have key:∀ x,(¬ Hit (wt r x) ts)↔∃ t∈ts,∀ y∈r,y∈t->y=x:=λx=>by
  unfold Hit;constructor
  ·intro h;refine aJ λz=>h λt D=>aJ λG=>z ⟨t,D,λy q j=>aJ λne=>G ⟨y,mem_wt.mpr ⟨q,ne⟩,j⟩⟩
  ·rintro⟨t,D,h⟩ z;obtain⟨y,q,j⟩:=z t D;obtain⟨h1,h2⟩:=mem_wt.mp q;exact h2 (h y h1 j)
 exact⟨λ⟨a,b,c⟩=>⟨a,b,λx B=>(key x).mp (c x B)⟩,λ⟨a,b,c⟩=>⟨a,b,λx B=>(key x).mpr (c x B)⟩⟩
theorem dQd {ts us:List (List Str)} (h:∀ t,t∈ts↔t∈us) {r:List Str}:Mn ts r↔Mn us r:=by
 have e:∀ r,Hit r ts↔Hit r us:=λr=>⟨λg t q=>g t ((h t).mpr q),λg t q=>g t ((h t).mp q)⟩;exact⟨λm=>m.congr λj _=>e j,λm=>m.congr λj _=>(e j).symm⟩
section
variable {us ms:List Str} (hl:ms.length=us.length) (nu:us.Nodup) (nm:ms.Nodup)
include hl nm
theorem dX6 {t:List Str} (ht:∀ n∈t,n∈us) {n:Str} (hn:n∈us):tr us ms n∈cl us ms t↔n∈t:=by
 rw[aZ3 hl nm];constructor
 ·rintro⟨m,hm,e⟩;rw[<- dQa hl nm (ht m hm) hn e];exact hm
 ·intro h;exact⟨n,h,rfl⟩
include nu in
theorem dJ0 {a b:List Str} (sa:Srt a) (sb:Srt b) (ha:∀ n∈a,n∈us) (hb:∀ n∈b,n∈us) (e:cl us ms a=cl us ms b):a=b:=by
 rw[<- bJw hl nu nm sa ha,e,bJw hl nu nm sb hb]
variable {ts:List (List Str)} (he:∀ t∈ts,Srt t) (hn:∀ t∈ts,∀ n∈t,n∈us)
include hn
theorem fZc {r:List Str} (sr:Srt r) (hr:∀ n∈r,n∈us):Mn (ts.map (cl us ms)) (cl us ms r)↔Mn ts r:=by
 rw[mn_iff,mn_iff];constructor
 ·rintro⟨_,h2,R⟩;refine⟨sr,λt j=>?_,λx J=>?_⟩
  ·obtain⟨y,B,z⟩:=h2 _ (aH.mpr ⟨t,j,rfl⟩);obtain⟨n,q,rfl⟩:=(aZ3 hl nm).mp B;exact⟨n,q,(dX6 hl nm (hn t j) (hr n q)).mp z⟩
  ·obtain⟨U,D,h⟩:=R _ ((aZ3 hl nm).mpr ⟨x,J,rfl⟩);obtain⟨t,j,rfl⟩:=aH.mp D;exact⟨t,j,λy B z=>dQa hl nm (hr y B) (hr x J) (h _ ((aZ3 hl nm).mpr ⟨y,B,rfl⟩) ((aZ3 hl nm).mpr ⟨y,z,rfl⟩))⟩
 ·rintro⟨_,h2,R⟩;refine⟨bXt hl nm sr.nodup hr,λU D=>?_,λZ N=>?_⟩
  ·obtain⟨t,j,rfl⟩:=aH.mp D;obtain⟨n,q,O⟩:=h2 t j;exact⟨_,(aZ3 hl nm).mpr ⟨n,q,rfl⟩,(aZ3 hl nm).mpr ⟨n,O,rfl⟩⟩
  ·obtain⟨x,J,rfl⟩:=(aZ3 hl nm).mp N;obtain⟨t,j,h⟩:=R x J;refine⟨_,aH.mpr ⟨t,j,rfl⟩,λY L G=>?_⟩;obtain⟨y,B,rfl⟩:=(aZ3 hl nm).mp L;rw[h y B ((dX6 hl nm (hn t j) (hr y B)).mp G)]
include nu
theorem dQe {r:List Str}:Mn (ts.map (cl us ms)) r↔∃ r0,Mn ts r0/\cl us ms r0=r:=by
 constructor
 ·intro h;have B:∀ n∈r,n∈ms:=λn h1=>by
   obtain⟨J,q,j⟩:=mem_nms.mp (h.sub h1);obtain⟨t,z,rfl⟩:=aH.mp q;exact cZ4 hl nm (hn t z) j
  have D:cl us ms (cl ms us r)=r:=bJw hl.symm nm nu h.srt B;have G:∀ n∈cl ms us r,n∈us:=λn h1=>cZ4 hl.symm nu B h1;refine⟨cl ms us r,(fZc hl nm hn (bXt hl.symm nu h.srt.nodup B) G).mp (by rw[D];exact h),D⟩
 ·rintro⟨r0,h,rfl⟩;exact(fZc hl nm hn h.srt λn h1=>by obtain⟨t,z,j⟩:=mem_nms.mp (h.sub h1);exact hn t z n j).mpr h
theorem fZd {out:List (List Str)} (h:IsL ts out):IsL (srT (ts.map (cl us ms))) (srT (out.map (cl us ms))):=by
 have j:∀ r∈out,Srt r/\∀ n∈r,n∈us:=λr G=>by
  have m:=(h.all r).mp G;exact⟨m.srt,λn h1=>by obtain⟨t,D,q⟩:=mem_nms.mp (m.sub h1);exact hn t D n q⟩
 refine⟨aXd (bH.mpr (bz (λ{a b} B z n e=>n (dJ0 hl nu nm (j a B).1 (j b z).1 (j a B).2 (j b z).2 e)) h.srt.nodup)),λr=>?_⟩;rw[mem_srT,aH,dQd (λt=>mem_srT),dQe hl nu nm hn];exact⟨λ⟨a,h1,h2⟩=>⟨a,(h.all a).mp h1,h2⟩,λ⟨a,h1,h2⟩=>⟨a,(h.all a).mpr h1,h2⟩⟩
include he
theorem fZe (nd:ts.Nodup):(ts.map (cl us ms)).Nodup:=bH.mpr (bz (λ{a b} q j n e=>n (dJ0 hl nu nm (he a q) (he b j) (hn a q) (hn b j) e)) nd)
omit nu in
theorem dJ1:etm (srT (ts.map (cl us ms)))↔etm ts:=by
 have B:∀ {x y:List Str},(∃ n∈x,n∈y)->∃ n∈y,n∈x:=λ⟨n,a,b⟩=>⟨n,b,a⟩;unfold etm;rw[(aQy _).pairwise_iff B,bH];refine⟨λh=>bz (λ{a b} z q ⟨x,h1,h2⟩=>?_) h,λh=>bz (λ{a b} z q ⟨n,h1,h2⟩=>⟨_,(aZ3 hl nm).mpr ⟨n,h1,rfl⟩,(aZ3 hl nm).mpr ⟨n,h2,rfl⟩⟩) h⟩;obtain⟨n,j,rfl⟩:=(aZ3 hl nm).mp h1;exact⟨n,j,(dX6 hl nm (hn b q) (hn a z n j)).mp h2⟩
theorem eZp:dX2 (srT (ts.map (cl us ms)))↔dX2 ts:=by
 have J:srT (ts.map (cl us ms))=[]↔ts=[]:=by
  rw[<- dJ,(aQy _).length_eq,aj,dJ]
 have e1:[]∈srT (ts.map (cl us ms))↔[]∈ts:=by
  rw[mem_srT,aH];constructor
  ·rintro⟨t,j,e⟩
   have:t.length=0:=by
    have h2:(cl us ms t).length=t.length:=by unfold cl;rw[(aZc _).length_eq,aj]
    rw[e] at h2;exact h2.symm
   rw[<- dJ.mp this];exact j
  ·intro h;exact⟨[],h,fZ1 .nil⟩
 unfold dX2;rw[dJ1 hl nm he hn,Ne,J,e1];refine and_congr_right λ_=>and_congr_right λ_=>and_congr_right λ_=>?_;have sub:∀ {r},Mn ts r->∀ n∈r,n∈us:=λm n h1=>by obtain⟨t,j,B⟩:=mem_nms.mp (m.sub h1);exact hn t j n B
 constructor
 ·intro h r m;obtain⟨L,z,h1⟩:=h (cl us ms r) ((dQd λt=>mem_srT).mpr ((dQe hl nu nm hn).mpr ⟨r,m,rfl⟩));obtain⟨t,j,rfl⟩:=aH.mp (mem_srT.mp z);exact⟨t,j,λx q=>(dX6 hl nm (sub m) (hn t j x q)).mp (h1 _ ((aZ3 hl nm).mpr ⟨x,q,rfl⟩))⟩
 ·intro h r m;obtain⟨G,m0,rfl⟩:=(dQe hl nu nm hn).mp ((dQd λt=>mem_srT).mp m);obtain⟨t,j,h1⟩:=h G m0;refine⟨_,mem_srT.mpr (aH.mpr ⟨t,j,rfl⟩),λx q=>?_⟩;obtain⟨n,D,rfl⟩:=(aZ3 hl nm).mp q;exact(aZ3 hl nm).mpr ⟨n,h1 n D,rfl⟩
end
theorem fZf {A B C:List (List Str)} (hc:∀ t,t∈C↔t∈A\/t∈B) (dj:∀ x∈nms A,x∉nms B) {r:List Str}:Mn C r↔∃ a b,Mn A a/\Mn B b/\srS (a++b)=r:=by
 constructor
 ·intro h;obtain⟨h1,h2,Z⟩:=mn_iff.mp h;have sub:∀ x∈r,x∈nms A\/x∈nms B:=λx G=>by
   obtain⟨t,D,q⟩:=mem_nms.mp (h.sub G);exact((hc t).mp D).imp (λz=>mem_nms.mpr ⟨t,z,q⟩) λz=>mem_nms.mpr ⟨t,z,q⟩
  have R:∀ x,x∈r.filter (λx=>decide (x∈nms A))↔x∈r/\x∈nms A:=λx=>by rw[bC];simp
  have O:∀ x,x∈r.filter (λx=>decide (x∈nms B))↔x∈r/\x∈nms B:=λx=>by rw[bC];simp
  refine⟨r.filter λx=>decide (x∈nms A),r.filter λx=>decide (x∈nms B),?_,?_,?_⟩
  ·refine mn_iff.mpr ⟨h1.filter _,λt D=>?_,λx G=>?_⟩
   ·obtain⟨x,G,q⟩:=h2 t ((hc t).mpr (.inl D));exact⟨x,(R x).mpr ⟨G,mem_nms.mpr ⟨t,D,q⟩⟩,q⟩
   ·obtain⟨N,L⟩:=(R x).mp G;obtain⟨t,D,h⟩:=Z x N;rcases(hc t).mp D with z | z
    ·exact⟨t,z,λy J j=>h y ((R y).mp J).1 j⟩
    ·obtain⟨y,J,j⟩:=h2 t D;have e:=h y J j;exact absurd (mem_nms.mpr ⟨t,z,e ▸ j⟩) (dj x L)
  ·refine mn_iff.mpr ⟨h1.filter _,λt D=>?_,λx G=>?_⟩
   ·obtain⟨x,G,q⟩:=h2 t ((hc t).mpr (.inr D));exact⟨x,(O x).mpr ⟨G,mem_nms.mpr ⟨t,D,q⟩⟩,q⟩
   ·obtain⟨N,L⟩:=(O x).mp G;obtain⟨t,D,h⟩:=Z x N;rcases(hc t).mp D with z | z
    ·obtain⟨y,J,j⟩:=h2 t D;have e:=h y J j;exact absurd L (dj x (mem_nms.mpr ⟨t,z,e ▸ j⟩))
    ·exact⟨t,z,λy J j=>h y ((O y).mp J).1 j⟩
  ·refine Srt.ext (aXz (cz.mpr ⟨h1.nodup.filter _,h1.nodup.filter _,λx G y J e=>?_⟩)) h1 λx=>?_
   ·subst e;exact dj x ((R x).mp G).2 ((O x).mp J).2
   ·rw[mem_srS,ar,R,O];exact⟨λz=>z.elim (·.1) (·.1),λz=>(sub x z).imp (λy=>⟨z,y⟩) λy=>⟨z,y⟩⟩
 ·rintro⟨a,b,Y,U,rfl⟩;obtain⟨a1,a2,a3⟩:=mn_iff.mp Y;obtain⟨b1,b2,b3⟩:=mn_iff.mp U;refine mn_iff.mpr ⟨aXz (cz.mpr ⟨a1.nodup,b1.nodup,λx G y J e=>dj x (Y.sub G) (e ▸ U.sub J)⟩),λt D=>?_,λx G=>?_⟩
  ·rcases(hc t).mp D with z | z
   ·obtain⟨x,G,q⟩:=a2 t z;exact⟨x,mem_srS.mpr (ar.mpr (.inl G)),q⟩
   ·obtain⟨x,G,q⟩:=b2 t z;exact⟨x,mem_srS.mpr (ar.mpr (.inr G)),q⟩
  ·rcases ar.mp (mem_srS.mp G) with z | z
   ·obtain⟨t,D,h⟩:=a3 x z;refine⟨t,(hc t).mpr (.inl D),λy J j=>?_⟩;rcases ar.mp (mem_srS.mp J) with w | w
    ·exact h y w j
    ·exact absurd (U.sub w) (dj y (mem_nms.mpr ⟨t,D,j⟩))
   ·obtain⟨t,D,h⟩:=b3 x z;refine⟨t,(hc t).mpr (.inr D),λy J j=>?_⟩;rcases ar.mp (mem_srS.mp J) with w | w
    ·exact absurd (mem_nms.mpr ⟨t,D,j⟩) (dj y (Y.sub w))
    ·exact h y w j
def prd (a b:List (List Str)):List (List Str):=a.flatMap λx=>b.map λy=>srS (x++y)
theorem eZq {A B C a b:List (List Str)} (hc:∀ t,t∈C↔t∈A\/t∈B) (dj:∀ x∈nms A,x∉nms B) (ha:IsL A a) (hb:IsL B b):IsL C (srT (prd a b)):=by
 have sep:∀ {x y q y':List Str},Mn A x->Mn B y->Mn A q->Mn B y'->srS (x++y)=srS (q++y')->x=q/\y=y':=λ{x y q y'} O N L J e=>by
  have mem:∀ n,n∈x\/n∈y↔n∈q\/n∈y':=λn=>by rw[<- ar,<- ar,<- mem_srS,e,mem_srS]
  constructor
  ·refine O.srt.ext L.srt λn=>⟨λh=>?_,λh=>?_⟩
   ·exact((mem n).mp (.inl h)).resolve_right λz=>dj n (O.sub h) (J.sub z)
   ·exact((mem n).mpr (.inl h)).resolve_right λz=>dj n (L.sub h) (N.sub z)
  ·refine N.srt.ext J.srt λn=>⟨λh=>?_,λh=>?_⟩
   ·exact((mem n).mp (.inr h)).resolve_left λz=>dj n (L.sub z) (N.sub h)
   ·exact((mem n).mpr (.inr h)).resolve_left λz=>dj n (O.sub z) (J.sub h)
 refine⟨aXd ?_,λr=>?_⟩
 ·unfold prd g8;rw[gp];refine⟨λx j=>bH.mpr (bz (λ{y y'} G D n e=>n (sep ((ha.all x).mp j) ((hb.all y).mp G) ((ha.all x).mp j) ((hb.all y').mp D) e).2) hb.srt.nodup),bz (λ{x q} j R n u Y v U e=>?_) ha.srt.nodup⟩;obtain⟨y,G,rfl⟩:=aH.mp Y;obtain⟨y',D,rfl⟩:=aH.mp U;exact n (sep ((ha.all x).mp j) ((hb.all y).mp G) ((ha.all q).mp R) ((hb.all y').mp D) e).1
 ·rw[mem_srT,fZf hc dj];unfold prd;rw[eK];constructor
  ·rintro⟨x,j,h⟩;obtain⟨y,G,e⟩:=aH.mp h;exact⟨x,y,(ha.all x).mp j,(hb.all y).mp G,e⟩
  ·rintro⟨x,y,j,G,e⟩;exact⟨x,(ha.all x).mpr j,aH.mpr ⟨y,(hb.all y).mpr G,e⟩⟩
theorem eZr {A C:List (List Str)} {z:Str} (hA:A≠[]) (hz:z∉nms A) (hc:∀ t,t∈C↔∃ a∈A,srS (a++[z])=t) {r:List Str}:Mn C r↔Mn A r\/r=[z]:=by
 have mem:∀ {a:List Str} {x:Str},x∈srS (a++[z])↔x∈a\/x=z:=λ{a x}=>by rw[mem_srS,ar,aE]
 constructor
 ·intro h;obtain⟨h1,h2,J⟩:=mn_iff.mp h
  by_cases B:z∈r
  ·right
   refine h1.ext (bJ ..) λx=>?_;rw[aE];refine⟨λj=>?_,λe=>e ▸ B⟩;obtain⟨t,D,h⟩:=J x j;obtain⟨a,_,rfl⟩:=(hc t).mp D;exact(h z B (mem.mpr (.inr rfl))).symm
  ·left
   refine mn_iff.mpr ⟨h1,λa q=>?_,λx j=>?_⟩
   ·obtain⟨x,j,O⟩:=h2 _ ((hc _).mpr ⟨a,q,rfl⟩);rcases mem.mp O with w | w
    ·exact⟨x,j,w⟩
    ·exact absurd (w ▸ j) B
   ·obtain⟨t,D,h⟩:=J x j;obtain⟨a,q,rfl⟩:=(hc t).mp D;exact⟨a,q,λy G N=>h y G (mem.mpr (.inl N))⟩
 ·rintro(h | rfl)
  ·obtain⟨h1,h2,J⟩:=mn_iff.mp h;refine mn_iff.mpr ⟨h1,λt D=>?_,λx j=>?_⟩
   ·obtain⟨a,q,rfl⟩:=(hc t).mp D;obtain⟨x,j,R⟩:=h2 a q;exact⟨x,j,mem.mpr (.inl R)⟩
   ·obtain⟨a,q,g⟩:=J x j;refine⟨_,(hc _).mpr ⟨a,q,rfl⟩,λy G L=>?_⟩;rcases mem.mp L with w | w
    ·exact g y G w
    ·exact absurd (w ▸ h.sub G) hz
  ·refine mn_iff.mpr ⟨bJ ..,λt D=>?_,λx j=>?_⟩
   ·obtain⟨a,q,rfl⟩:=(hc t).mp D;exact⟨z,aE.mpr rfl,mem.mpr (.inr rfl)⟩
   ·obtain⟨a,l,rfl⟩:=List.exists_cons_of_ne_nil hA;exact⟨_,(hc _).mpr ⟨a,ao,rfl⟩,λy G _=>by rw[aE.mp G,aE.mp j]⟩
theorem dX7 {A C out:List (List Str)} {z:Str} (hA:A≠[]) (hz:z∉nms A) (hc:∀ t,t∈C↔∃ a∈A,srS (a++[z])=t) (h:IsL A out):IsL C (srT (out++[[z]])):=by
 refine⟨aXd (cz.mpr ⟨h.srt.nodup,bt.mpr ⟨by simp,dG⟩,λx q y j e=>?_⟩),λr=>?_⟩
 ·rw[aE.mp j] at e;subst e;exact hz (((h.all _).mp q).sub (aE.mpr rfl))
 ·rw[mem_srT,ar,aE,eZr hA hz hc,h.all]
theorem cZ6 (us:List Str) (z:Str):(aT us.length).map (λk=>us.getD k z)=us:=by
 refine d8 λi=>?_;rw[ba];rcases Nat.lt_or_ge i us.length with h | h
 ·rw[gM h,af h];show some (us.getD i z)=_;rw[ah,af h];rfl
 ·rw[bu h,bu (by rw[cR];exact h)];rfl
theorem eZs {z x y:Str} (h:z++x=z++y):x=y:=by
 have e:(z.cps++x.cps).toList=(z.cps++y.cps).toList:=congrArg (λz:Str=>z.cps.toList) h;rw[bL,bL] at e
 have:=iZ e
 cases x;cases y;exact congrArg Str.mk (iW.mp this)
def zz8:Str:=a7 "zzzzzzzz"
theorem dQf {us ms:List Str} {ts:List (List Str)} {k:Nat} (hl:ms.length=us.length) (nu:us.Nodup) (nm:ms.Nodup) (hs:SrtT ts) (he:∀ t∈ts,Srt t/\t.length<=k) (hn:∀ t∈ts,∀ n∈t,n∈us):SrtT (srT (ts.map (cl us ms)))/\(∀ t∈srT (ts.map (cl us ms)),Srt t/\t.length<=k)/\(srT (ts.map (cl us ms))).length=ts.length/\∀ x∈nms (srT (ts.map (cl us ms))),x∈ms:=by
 refine⟨aXd (fZe hl nu nm (λt j=>(he t j).1) hn hs.nodup),λt j=>?_,by rw[(aQy _).length_eq,aj],λx B=>?_⟩
 ·obtain⟨o,q,rfl⟩:=aH.mp (mem_srT.mp j);refine⟨bXt hl nm (he o q).1.nodup (hn o q),?_⟩;unfold cl;rw[(aZc _).length_eq,aj];exact(he o q).2
 ·obtain⟨t,j,z⟩:=mem_nms.mp B;obtain⟨o,q,rfl⟩:=aH.mp (mem_srT.mp j);exact cZ4 hl nm (hn o q) z
end L2
namespace Toy
open PySem L2
abbrev s_law_names:Stmt:=top 16
theorem sc_law_names:FnScope ["pile", "many", "letters", "start", "at", "base", "pair", "short", "some"] ["pile", "many"] (aQ4 s_law_names):=fsc
abbrev no8 (z:Str):Prop:=∀ r:Fin 8,∀ j:Fin 26,cutS z none (some ((r.val:Nat):Int))++(⟨#[97 + j.val]⟩:Str)++cutS z (some ((r.val:Nat):Int)) none≠zz8
theorem fZg {x y:Nat}:zz8∉w14 x y:=λh=>by
 have q:zz8.length=8:=by decide
 have:zz8.length<=3:=by
  unfold w14 at h;generalize zz8=w at h;rcases ar.mp h with h | h
  ·rcases ar.mp h with h | h
   ·rcases ar.mp h with h | h
    ·obtain⟨c,_,rfl⟩:=aH.mp h;show 1<=3;decide
    ·rw[aX2 w h];decide
   ·obtain⟨v,j,rfl⟩:=aH.mp h;rw[aXy,aX2 v j];show 2 + 1<=3;decide
  ·obtain⟨v,j,rfl⟩:=aH.mp h;rw[aXy,aX2 v j];show 2 + 1<=3;decide
 omega
def aJ2:SpD:=λds S Q=>∃ (a:Addr) (many:Nat),ds=[.ref a,.int many]/\Pile S a/\many<=24/\∀ (names:List Str) S',names.Nodup->names.Pairwise (λx y=>leS x y=true)->names.length=many->(∀ n∈names,1<=n.length)->zz8∉names->Off a S S'->Pile S' a->Q (tupS names) S'
section
variable {P:aC} {w:aO} {K:ap} {mg:Str->Option ad} {base:a9} {pt cc:Addr}
theorem bXv (T:Tx K mg "_law_names" s_law_names) (B:Bs mg) (d_law_next:Df P w K mg base 1 "_law_next" ["pile", "most"] (spU K aQq)):Df P w K mg base 2 "_law_names" ["pile", "many"] (spU K aJ2):=by
 refine aZf T sc_law_names (λF=>F.binds λ_ _ _ _ _ _=>us2 λ_ _=>rfl) ?_ λf cdv A outer s H E U=>⟨_,(aQ2 (aQe (i:=2) sc_law_names.nd rfl (gK rfl) aZm)
  (aQ2 (aQe (i:=3) sc_law_names.nd rfl (gK rfl) (aQ3 d_law_next U rfl (aQ0 (dv 0) (aQ0 aQ5 aQ1))))
  (aQ2 (aQe (i:=4) sc_law_names.nd rfl (gK rfl) (aQ3 d_law_next U rfl (aQ0 (dv 0) (aQ0 aQ5 aQ1))))
  (aQ2 (aQe (i:=5) sc_law_names.nd rfl (gK rfl) (e_ix (aZu (b:=false) (aQ0 aZm (aQ0 aZm (aQ0 aZm (aQ0 aZm (aQ0 aZm (aQ0 aZm (aQ0 aZm (aQ0 aZm aQ1))))))))) (aQ3 d_law_next U rfl (aQ0 (dv 0) (aQ0 aQ5 aQ1)))))
  (eZ1 (aJa (PWD.pt (eJz (eJv U (aQ3 d_law_next U rfl (aQ0 (dv 0) (aQ0 aQ5 aQ1))) aQ5) (eQn (eQm U (dv 1) aQ5)))) (aQ2 (aQe (i:=6) sc_law_names.nd rfl (gK rfl) (e_ix (aZu (b:=false) (aQ0 aZm (aQ0 aZm (aQ0 aZm (aQ0 aZm aQ1))))) (bXf (dv 3) aQ5)))
  (aQ2 (aQe (i:=7) sc_law_names.nd rfl (bp rfl) (aQz (k:=false) (aQt (N':=["word", "pair"]) (oc:=none) (b:=false) [0] [] rfl sc_law_names.nd (λ_ _ _=>aQ8 _ _ _ _ _ _ _ _ _) (.own (.cap (i:=6) rfl (by decide +kernel) .nil)) (aQj rfl) (dXy (dv 6)) (cg_name (i:=0)) (λ_ _ _ _ _=>aQb (i:=0) (nd_ ["word", "pair"]) rfl (bp rfl) (.inr rfl)) (λ_ _ _ _ _=>aQn) aQi (λ_ _ _ _ _ _=>aQh rfl (by exact PD.o (aQz (k:=false) (dv 0) (e_ix (dv 1) aQ5))))) (aQt (N':=["word", "pair"]) (oc:=none) (b:=false) [0] [] rfl sc_law_names.nd (λ_ _ _=>aQ8 _ _ _ _ _ _ _ _ _) (.own (.cap (i:=6) rfl (by decide +kernel) .nil)) (aQj rfl) (dXy (dv 6)) (cg_name (i:=0)) (λ_ _ _ _ _=>aQb (i:=0) (nd_ ["word", "pair"]) rfl (bp rfl) (.inr rfl)) (λ_ _ _ _ _=>aQn) aQi (λ_ _ _ _ _ _=>aQh rfl (by exact PD.o (aQz (k:=false) (dv 0) (e_ix (dv 1) aQ5)))))))
  (aQ2 (aQe (i:=8) sc_law_names.nd rfl (bp rfl) (aQz (k:=false) (aQz (k:=false) (aQz (k:=false) (cJy (b:=false) rfl B.list (aQ0 (dv 6) aQ1)) (dv 7)) (aQt (N':=["word", "pair"]) (oc:=none) (b:=false) [0] [] rfl sc_law_names.nd (λ_ _ _=>aQ8 _ _ _ _ _ _ _ _ _) (.own (.cap (i:=6) rfl (by decide +kernel) .nil)) (aQj rfl) (aZp (dv 7)) (cg_name (i:=0)) (λ_ _ _ _ _=>aQb (i:=0) (nd_ ["word", "pair"]) rfl (bp rfl) (.inr rfl)) (λ_ _ _ _ _=>aQn) aQi (λ_ _ _ _ _ _=>aQh rfl (by exact PD.o (aQz (k:=false) (dv 0) (e_ix (dv 1) aQ5)))))) (aQt (N':=["word", "pair"]) (oc:=none) (b:=false) [0] [] rfl sc_law_names.nd (λ_ _ _=>aQ8 _ _ _ _ _ _ _ _ _) (.own (.cap (i:=6) rfl (by decide +kernel) .nil)) (aQj rfl) (aZp (dv 7)) (cg_name (i:=0)) (λ_ _ _ _ _=>aQb (i:=0) (nd_ ["word", "pair"]) rfl (bp rfl) (.inr rfl)) (λ_ _ _ _ _=>aQn) aQi (λ_ _ _ _ _ _=>aQh rfl (by exact PD.o (aQz (k:=false) (dv 0) (e_ix (dv 1) aQ5)))))))
  (aQ6 (aQf (aQr rfl B.tuple (aQ0 (aQv (b:=false) U rfl B.sorted (aQ0 (e_sl (b:=false) (aQz (k:=false) (dv 8) (dv 8)) (bQ2 (dv 4)) (bQ2 (aQz (k:=false) (dv 4) (dv 1)))) aQ1)) aQ1))))))) aZa)
  (aQ6 (aQf (aQr rfl B.tuple (aQ0 (aQv (b:=false) U rfl B.sorted (aQ0 (aQt (N':=["k", "base", "at", "letters", "start"]) (oc:=none) (b:=false) [0] [] rfl sc_law_names.nd (λ_ _ _=>aQ8 _ _ _ _ _ _ _ _ _) (.own (.cap (i:=5) rfl (by decide +kernel) (.cap (i:=4) rfl (by decide +kernel) (.cap (i:=2) rfl (by decide +kernel) (.cap (i:=3) rfl (by decide +kernel) .nil))))) (aQj rfl) (aZq rfl B.range (aQ0 (dv 1) aQ1)) (cg_name (i:=0)) (λ_ _ _ _ _=>aQb (i:=0) (nd_ ["k", "base", "at", "letters", "start"]) rfl (bp rfl) (.inr rfl)) (λ_ _ _ _ _=>aQn) aQi (λ_ _ _ _ _ _=>aQh rfl (by exact PD.o (aQz (k:=false) (aQz (k:=false) (e_sl (b:=false) (dv 1) bJl (bQ2 (dv 2))) (e_ix (dv 3) (bXf (aQz (k:=false) (dv 4) (dZa aQ5 (dv 0))) aQ5))) (e_sl (b:=false) (dv 1) (bQ2 (dv 2)) bJl))))) aQ1)) aQ1))))))))),?_⟩
 ·rintro ds S Q ⟨a,many,rfl,_⟩;rfl
 ·rintro ds S Q ⟨a,many,rfl,dk,m24,q⟩;refine⟨a,26,rfl,dk,by decide,by decide,λL S1 r10 r11 off1 dk1=>?_⟩
  refine⟨a,8,rfl,dk1,by decide,by decide,λG S2 r20 r21 off2 dk2=>?_⟩
  refine⟨z9999 (by decide),a,8,rfl,dk2,by decide,by decide,λR S3 r30 r31 Z dk3=>?_⟩
  obtain⟨z,hz,hzl,hz8⟩:∃ z:Str,atI [D.str (a7 ""),D.str (a7 ""),D.str (a7 "room"),D.str (a7 "lengthy"),D.str (a7 "zzz"),D.str (a7 "qx"),D.str (a7 "kkkkkk"),D.str (a7 "none")] R=some (.str z)/\z.length<=7/\no8 z:=by
   have h:R=0\/R=1\/R=2\/R=3\/R=4\/R=5\/R=6\/R=7:=by omega
   rcases h with rfl | rfl | rfl | rfl | rfl | rfl | rfl | rfl <;> exact⟨_,rfl,by decide,by unfold no8 zz8;decide +kernel⟩
  have N:∀ {S'},Off a S3 S'->Off a S S':=λo=>off1.trans (off2.trans (Z.trans o));refine⟨_,_,rfl,hz,?_⟩;refine⟨fun Γ' S'=>Γ'=[some (.ref a),some (.int many),some (.str lettersZ),some (.int L),some (.int G),some (.str z),none,none,none]/\Off a S S'/\Pile S' a,?_,?_⟩
  ·refine⟨a,4,rfl,dk3,by decide,by decide,λr4 S4 r40 r41 J O=>⟨rfl,_,rfl,ite2 (λc1=>?_) λc1=>⟨rfl,N J,O⟩⟩⟩
   refine⟨_,rfl,ite2 (λc2=>?_) λc2=>⟨rfl,N J,O⟩⟩;have m15:many < 15:=by have:=of_decide_eq_true c2;omega
   obtain⟨x,y,hp,hnd⟩:∃ x y:Nat,atI [D.str (a7 "ab"),D.str (a7 "qx"),D.str (a7 "yz"),D.str (a7 "mn")] (L % 4)=some (.str ⟨#[x,y]⟩)/\(w14 x y).Nodup:=by
    have h:L % 4=0\/L % 4=1\/L % 4=2\/L % 4=3:=by omega
    rcases h with h | h | h | h <;> rw[h]
    ·exact⟨97,98,rfl,by decide +kernel⟩
    ·exact⟨113,120,rfl,by decide +kernel⟩
    ·exact⟨121,122,rfl,by decide +kernel⟩
    ·exact⟨109,110,rfl,by decide +kernel⟩
   refine⟨z9999 (by show 4<=9999;decide),by show(0:Int) < 4;decide,_,_,rfl,hp,?_⟩
   refine aQp (enc:=λc:Nat=>D.str ⟨#[c]⟩) (xs:=[x,y]) (f:=λc=>D.str (sg c++sg x)) (λc _ Q q=>⟨z9999 (by show 2<=9999;decide),x,aZs (j:=0) rfl,z9999 (by show 1 + 1<=9999;decide),q⟩) (z9999 (by show 2<=9999;decide)) ?_
   refine aQp (enc:=λc:Nat=>D.str ⟨#[c]⟩) (xs:=[x,y]) (f:=λc=>D.str (sg c++sg y)) (λc _ Q q=>⟨z9999 (by show 2<=9999;decide),y,aZs (j:=1) rfl,z9999 (by show 1 + 1<=9999;decide),q⟩) (z9999 (by show 2<=9999;decide)) ?_
   refine⟨_,_,rfl,rfl,z9999 (by show 4<=9999;decide),by show 2<=1000;decide,_,_,rfl,rfl,z9999 (by show 6<=9999;decide),(sh2 x y).map D.str,rfl,?_⟩
   refine aQp (enc:=D.str) (xs:=sh2 x y) (f:=λw=>D.str (w++sg x)) (λw hw Q q=>⟨z9999 (by show 2<=9999;decide),x,aZs (j:=0) rfl,z9999 (by rw[aX2 w hw];show 2 + 1<=9999;decide),q⟩) (z9999 (by show 4<=9999;decide)) ?_
   refine⟨_,_,rfl,rfl,z9999 (by show 10<=9999;decide),(sh2 x y).map D.str,rfl,?_⟩
   refine aQp (enc:=D.str) (xs:=sh2 x y) (f:=λw=>D.str (w++sg y)) (λw hw Q q=>⟨z9999 (by show 2<=9999;decide),y,aZs (j:=1) rfl,z9999 (by rw[aX2 w hw];show 2 + 1<=9999;decide),q⟩) (z9999 (by show 4<=9999;decide)) ?_
   refine⟨_,_,rfl,rfl,z9999 (by show 14<=9999;decide),_,_,rfl,rfl,z9999 (by show 28<=9999;decide),G,rfl,G + many,rfl,_,rfl,?_⟩
   obtain⟨i,rfl⟩:∃ i:Nat,G=i:=⟨G.toNat,by omega⟩
   have hi:i < 8:=by omega
   have h14:(w14 x y).length=14:=rfl;have Y:=cZn (w14 x y) hnd i many (by omega) (by omega)
   have hlen:(((w14 x y++w14 x y).drop i).take many).length=many:=by rw[aQ,bq,av,h14];omega
   have sp:=aZc (((w14 x y++w14 x y).drop i).take many);refine .inl ⟨((w14 x y++w14 x y).drop i).take many,?_,_,rfl,aQa (q _ _ (sp.nodup_iff.mpr Y) (bXl _) (by rw[sp.length_eq,hlen]) (λn hn=>eZf n ((ar.mp (cF (b5 (sp.mem_iff.mp hn)))).elim id id)) (λhn=>fZg ((ar.mp (cF (b5 (sp.mem_iff.mp hn)))).elim id id)) (N J) O)⟩
   have ec:cutD ((w14 x y++w14 x y).map D.str) (some (i:Int)) (some ((i:Int) + (many:Int)))=(((w14 x y++w14 x y).drop i).take many).map D.str:=by
    rw[dZn,show(i:Int) + (many:Int)=((i + many:Nat):Int) by omega,HT.sIx_nat,HT.sIx_nat,av,h14,Nat.min_eq_left (by omega),Nat.min_eq_left (by omega),Nat.add_sub_cancel_left]
   exact ec.symm
  ·rintro Γ' S4 ⟨rfl,J,O⟩;refine⟨⟨by omega,by omega⟩,?_⟩
   rw[bR,eZ5];refine aQp (enc:=λk:Nat=>D.int (k:Nat)) (f:=λk=>D.str (cutS z none (some G)++(⟨#[97 + ((L + 5 * (k:Int)) % 26).toNat]⟩:Str)++cutS z (some G) none)) (λk hk Q q=>?_) (z9999 (by rw[cR];show 0 + many<=_;omega)) ?_
   ·have hb:(L + 5 * (k:Int)) % 26=((((L + 5 * (k:Int)) % 26).toNat:Nat):Int):=by omega
    have hat:atI lettersZ.cps.toList ((L + 5 * (k:Int)) % 26)=some (97 + ((L + 5 * (k:Int)) % 26).toNat):=by
     rw[hb];exact dQ2 (by omega)
    have l1:=bXq hzl none (some G);have l2:=bXq hzl (some G) none;have l3:(cutS z none (some G)++(⟨#[97 + ((L + 5 * (k:Int)) % 26).toNat]⟩:Str)).length=(cutS z none (some G)).length + 1:=by
     show((cutS z none (some G)).cps++#[_]).size=_;rw[dg];rfl
    exact⟨G,rfl,by omega,.inl ⟨by decide,by decide⟩,by show(0:Int) < 26;decide,by decide,_,hat,z9999 (by show(cutS z none (some G)).length + 1<=9999;omega),G,rfl,by omega,z9999 (by rw[l3];omega),q⟩
   ·have Y:((aT many).map λk:Nat=>cutS z none (some G)++(⟨#[97 + ((L + 5 * (k:Int)) % 26).toNat]⟩:Str)++cutS z (some G) none).Nodup:=by
     unfold g8;rw[bH];refine bz ?_ (f8 (n:=many));intro k k' hk hk' hlt e
     have:=eZe e
     have h1:=aP.mp hk;have h2:=aP.mp hk';omega
    have sp:=aZc ((aT many).map λk:Nat=>cutS z none (some G)++(⟨#[97 + ((L + 5 * (k:Int)) % 26).toNat]⟩:Str)++cutS z (some G) none);refine .inl ⟨_,?_,_,rfl,aQa (q _ _ (sp.nodup_iff.mpr Y) (bXl _) (by rw[sp.length_eq,aj,cR]) (λn hn=>by obtain⟨k,_,rfl⟩:=aH.mp (sp.mem_iff.mp hn);rw[aXy,aXy];show 1<=_ + 1 + _;omega) (λhn=>by obtain⟨k,_,e⟩:=aH.mp (sp.mem_iff.mp hn);refine hz8 ⟨G.toNat,by omega⟩ ⟨((L + 5 * (k:Int)) % 26).toNat,by omega⟩ ?_;show cutS z none (some ((G.toNat:Nat):Int))++_++cutS z (some ((G.toNat:Nat):Int)) none=_;rw[show((G.toNat:Nat):Int)=G by omega];exact e) J O)⟩
    show _=_;rw[bd];rfl
end
abbrev s_law_set:Stmt:=top 17
theorem sc_law_set:FnScope ["pile", "names", "many", "left"] ["pile", "names", "many"] (aQ4 s_law_set):=fsc
section
variable {P:aC} {w:aO} {K:ap} {mg:Str->Option ad} {base:a9} {pt cc:Addr}
theorem cZq (T:Tx K mg "_law_set" s_law_set) (B:Bs mg) (d_law_next:Df P w K mg base 1 "_law_next" ["pile", "most"] (spU K aQq)):Df P w K mg base 2 "_law_set" ["pile", "names", "many"] (spU K bZ1):=by
 refine aZf T sc_law_set (λF=>F.binds λ_ _ _ _ _ _=>us3 λ_ _ _=>rfl) ?_ λf cdv A outer s H E U=>⟨_,(aQ2 (aQe (i:=3) sc_law_set.nd rfl (gK rfl) (dXu (b:=true) rfl B.list (aQ0 (dv 1) aQ1)))
  (aQ6 (aQf (aQr rfl B.tuple (aQ0 (aQv (b:=false) U rfl B.sorted (aQ0 (aQt (N':=["k", "left", "pile"]) (oc:=none) (b:=false) [0] [] rfl sc_law_set.nd (λ_ _ _=>aQ8 _ _ _ _ _ _ _ _ _) (.own (.cap (i:=3) rfl (by decide +kernel) (.cap (i:=0) rfl (by decide +kernel) .nil))) (aQj rfl) (aZq rfl B.range (aQ0 (fX6 rfl B.min (aQ0 (dv 2) (aQ0 (bXh rfl B.len (aQ0 (dv 1) aQ1)) aQ1))) aQ1)) (cg_name (i:=0)) (λ_ _ _ _ _=>aQb (i:=0) (nd_ ["k", "left", "pile"]) rfl (bp rfl) (.inr rfl)) (λ_ _ _ _ _=>aQn) aQi (λ_ _ _ _ _ _=>aQh rfl (by exact PD.o (cJo (dv 1) (aQ0 (aQ3 d_law_next U rfl (aQ0 (dv 2) (aQ0 (bXh rfl B.len (aQ0 (dv 1) aQ1)) aQ1))) aQ1))))) aQ1)) aQ1))))),?_⟩
 ·rintro ds S Q ⟨a,names,many,rfl,_⟩;rfl
 ·rintro ds S Q ⟨a,names,many,rfl,dk,nd,Y,m60,q⟩;refine⟨_,rfl,λN J=>?_⟩;have z:N≠a:=dk.ne J;obtain⟨m,hm,mm,Z,mo⟩:∃ m:Nat,(λi j:Int=>if j < i then j else i) (many:Int) ((names.map D.str).length:Int)=(m:Int)/\m<=many/\m<=names.length/\(m=many\/m=names.length):=by
   rw[aj];show ∃ m:Nat,(if (names.length:Int) < (many:Int) then (names.length:Int) else (many:Int))=(m:Int)/\_
   split
   ·exact⟨names.length,rfl,by omega,Nat.le_refl _,.inr rfl⟩
   ·exact⟨many,rfl,Nat.le_refl _,by omega,.inl rfl⟩
  refine⟨_,rfl,?_,?_⟩
  ·rw[hm];exact⟨by omega,by omega⟩
  rw[hm,bR];refine cQx z (xs:=names.map D.str) aQ7 (by rw[aj];exact Z) (by rw[aj];omega) (dk.supd z) λvs us S' pm O hl R G=>?_
  obtain⟨as,bs,rfl,rfl,pn⟩:=bXp (f:=D.str) dStr' (λ_=>rfl) pm;rw[aj] at O;have L:as.Nodup:=(cz.mp (pn.nodup_iff.mpr nd)).1;have sp:=aZc as;refine .inl ⟨as,rfl,_,rfl,aXx (S':=sdel S' N) bJh (q (srS as) _ ⟨sp.nodup_iff.mpr L,bXl as,λn h=>pn.mem_iff.mp (bZ _ (sp.mem_iff.mp h)),by rw[sp.length_eq];omega⟩ (by rw[sp.length_eq];omega) (λb hb=>?_) (R.eq (aXc (cf z))))⟩
  by_cases e:b=N
  ·subst e;rw[aXj,J]
  ·rw[aXc e,G b hb e,aQ9 e]
end
abbrev s_law_collection:Stmt:=top 18
theorem sc_law_collection:FnScope ["pile", "names", "count", "sizes", "found", "k", "one"] ["pile", "names", "count", "sizes"] (aQ4 s_law_collection):=fsc
section
variable {P:aC} {w:aO} {K:ap} {mg:Str->Option ad} {base:a9} {pt cc:Addr}
theorem aJ3 (T:Tx K mg "_law_collection" s_law_collection) (B:Bs mg) (d_law_next:Df P w K mg base 2 "_law_next" ["pile", "most"] (spU K aQq)) (d_law_set:Df P w K mg base 2 "_law_set" ["pile", "names", "many"] (spU K bZ1)):Df P w K mg base 3 "_law_collection" ["pile", "names", "count", "sizes"] (spU K aZ7):=by
 refine aZf T sc_law_collection (λF=>F.binds λ_ _ _ _ _ _=>us4 λ_ _ _ _=>rfl) ?_ λf cdv A outer s H E hr=>⟨_,(aQ2 (aQe (i:=4) sc_law_collection.nd rfl (bp rfl) (aZu (b:=true) aQ1))
  (aQ2 (cQp gL rfl (aZq rfl B.range (aQ0 (dv 2) aQ1)) (aXu (i:=5) sc_law_collection.nd rfl (bp rfl)) (aQ2 (aQe (i:=6) sc_law_collection.nd rfl (bp rfl) (aQ3 d_law_set hr rfl (aQ0 (dv 0) (aQ0 (dv 1) (aQ0 (e_ix (dv 3) (aQ3 d_law_next hr rfl (aQ0 (dv 0) (aQ0 (bXh rfl B.len (aQ0 (dv 3) aQ1)) aQ1)))) aQ1)))))
  (aQ6 (aJa (dXt hr (dv 6) (dv 4)) (aQ6 (bJm (dZi (dv 4) (aQ0 (dv 6) aQ1)))) aZa))))
  (aQ6 (aQf (aQr rfl B.tuple (aQ0 (aQv (b:=false) hr rfl B.sorted (aQ0 (dv 4) aQ1)) aQ1)))))),?_⟩
 ·rintro ds S Q ⟨a,names,count,sizes,most,rfl,_⟩;rfl
 ·rintro ds S Q ⟨a,names,count,sizes,most,rfl,dk,nd,n60,c60,sne,s99,smost,m60,q⟩;refine⟨z9999 (by decide),λL hfp=>⟨⟨by omega,by omega⟩,?_⟩⟩
  have J:L≠a:=dk.ne hfp;have hs1:1<=sizes.length:=by cases sizes with | nil=>exact absurd rfl sne | cons _ _=>simp
  rw[bR];refine bZm (λi Γ S'=>∃ (x5 x6:Option D) (ts:List (List Str)),Γ=[some (.ref a),some (tupS names),some (.int count),some (.lst (sizes.map λk=>.int (k:Nat))),some (.ref L),x5,x6]/\S' L=some (.lst (ts.map tupS))/\ts.length<=i/\ts.Nodup/\(∀ t∈ts,SetOf names most t)/\Pile S' a/\∀ b,b≠a->b≠L->S' b=S b) ⟨none,none,[],rfl,aQ7,Nat.le_refl _,dG,by simp,dk.supd J,λb _ hb=>aQ9 hb⟩ ?_ ?_
  ·rintro i x Γ S' N hx ⟨x5,x6,ts,rfl,hf,hl,O,R,dk',G⟩ hN;obtain⟨hi,rfl⟩:=cJv hx;refine⟨trivial,_,rfl,a,_,rfl,dk',by rw[aj];omega,by rw[aj];omega,λr S2 r0 r1 off2 dk2=>?_⟩
   rw[aj] at r1;have hr:r.toNat < sizes.length:=by omega
   have hat:atI (sizes.map λk=>D.int (k:Nat)) r=some (.int (sizes[r.toNat]:Nat)):=by
    have:=aZs (xs:=sizes.map λk=>D.int (k:Nat)) (j:=r.toNat) (v:=.int (sizes[r.toNat]:Nat)) (by rw[ba,af hr];rfl)
    rwa [show((r.toNat:Nat):Int)=r by omega] at this
   have hsz:=smost _ (cM hr);refine⟨_,_,rfl,hat,a,names,sizes[r.toNat],rfl,dk2,nd,n60,by omega,λt S3 ht _ Z dk3=>?_⟩
   have U:S3 L=some (.lst (ts.map tupS)):=(Z L J).trans ((off2 L J).trans hf);have ht':SetOf names most t:=⟨ht.1,ht.2.1,ht.2.2.1,Nat.le_trans ht.2.2.2 hsz⟩;have Y:∀ b,b≠a->b≠L->S3 b=S b:=λb h1 h2=>(Z b h1).trans ((off2 b h1).trans (G b h1 h2));refine⟨ts.map tupS,U,aZv ts,by rw[ef,br];exact λx _=>cQw x t,_,rfl,?_⟩
   have e:decide (tupS t∈ts.map tupS)=decide (t∈ts):=decide_eq_decide.mpr mem_tups;rw[if_pos rfl,e]
   by_cases hin:t∈ts
   ·rw[decide_eq_true hin];exact hN _ _ ⟨_,_,ts,rfl,U,by omega,O,R,dk3,Y⟩
   ·rw[decide_eq_false hin];refine⟨⟨_,U⟩,_,U,by rw[aj,be];omega,hN _ _ ⟨_,_,ts++[t],rfl,?_,?_,?_,?_,dk3.supd J,λb h1 h2=>(aQ9 h2).trans (Y b h1 h2)⟩⟩
    ·rw[aQ7,bS];rfl
    ·rw[av];show ts.length + 1<=_;omega
    ·rw[cz];exact⟨O,bt.mpr ⟨by simp,dG⟩,λx hx y hy=>by rw[aE.mp hy];rintro rfl;exact hin hx⟩
    ·intro z hz;rcases ar.mp hz with hz | hz
     ·exact R z hz
     ·rw[aE.mp hz];exact ht'
  ·rintro Γ S' ⟨x5,x6,ts,rfl,hf,hl,O,R,dk',G⟩;rw[aX7] at hl;have sp:=aQy ts;refine⟨trivial,.inr (.inr ⟨ts,.inl hf,_,rfl,aXx (S':=sdel S' L) bJh (q (srT ts) _ (sp.nodup_iff.mpr O) (cJp ts) (λt h=>R t (sp.mem_iff.mp h)) (by rw[sp.length_eq];exact hl) (λb hb=>?_) (dk'.eq (aXc (cf J))))⟩)⟩
   by_cases e:b=L
   ·subst e;rw[aXj,hfp]
   ·rw[aXc e,G b hb e]
end
abbrev s_law_some_sets:Stmt:=top 19
theorem sc_law_some_sets:FnScope ["pile", "most", "names", "size", "sizes", "count"] ["pile", "most"] (aQ4 s_law_some_sets):=fsc
def bXw:SpD:=λds S Q=>∃ (a:Addr) (most:Nat),ds=[.ref a,.int most]/\Pile S a/\most<=14/\∀ ts S',CollB most ts->zz8∉nms ts->Off a S S'->Pile S' a->Q (.tup (ts.map tupS)) S'
section
variable {P:aC} {w:aO} {K:ap} {mg:Str->Option ad} {base:a9} {pt cc:Addr}
theorem aJb (T:Tx K mg "_law_some_sets" s_law_some_sets) (B:Bs mg) (d_law_next:Df P w K mg base 3 "_law_next" ["pile", "most"] (spU K aQq)) (d_law_names:Df P w K mg base 3 "_law_names" ["pile", "many"] (spU K aJ2)) (d_law_collection:Df P w K mg base 3 "_law_collection" ["pile", "names", "count", "sizes"] (spU K aZ7)):Df P w K mg base 4 "_law_some_sets" ["pile", "most"] (spU K bXw):=by
 refine aZf T sc_law_some_sets (λF=>F.binds λ_ _ _ _ _ _=>us2 λ_ _=>rfl) ?_ λf cdv A outer s H E G=>⟨_,(aQ2 (aQe (i:=2) sc_law_some_sets.nd rfl (bp rfl) (aQ3 d_law_names G rfl (aQ0 (dv 0) (aQ0 (aQz (k:=false) aQ5 (aQ3 d_law_next G rfl (aQ0 (dv 0) (aQ0 aQ5 aQ1)))) aQ1))))
  (aQ2 (aQe (i:=3) sc_law_some_sets.nd rfl (bp rfl) (aQz (k:=false) aQ5 (aQ3 d_law_next G rfl (aQ0 (dv 0) (aQ0 aQ5 aQ1)))))
  (aQ2 (aQe (i:=4) sc_law_some_sets.nd rfl (bp rfl) (e_ix (aZu (b:=false) (aQ0 (aZu (b:=false) (aQ0 (dv 3) aQ1)) (aQ0 (aZu (b:=false) (aQ0 aQ5 (aQ0 aQ5 (aQ0 aQ5 aQ1)))) (aQ0 (aZu (b:=false) (aQ0 aQ5 (aQ0 aQ5 (aQ0 aQ5 (aQ0 aQ5 (aQ0 aQ5 (aQ0 aQ5 (aQ0 aQ5 aQ1)))))))) (aQ0 (aZu (b:=false) (aQ0 aQ5 aQ1)) (aQ0 (aZu (b:=false) (aQ0 aQ5 (aQ0 aQ5 aQ1))) aQ1)))))) (aQ3 d_law_next G rfl (aQ0 (dv 0) (aQ0 aQ5 aQ1)))))
  (aQ2 (aQe (i:=5) sc_law_some_sets.nd rfl (bp rfl) (e_ix (aZu (b:=false) (aQ0 (aQ3 d_law_next G rfl (aQ0 (dv 0) (aQ0 (aQz (k:=false) (dv 1) aQ5) aQ1))) (aQ0 (dv 1) aQ1))) (aQ3 d_law_next G rfl (aQ0 (dv 0) (aQ0 aQ5 aQ1)))))
  (aQ6 (aQf (aQ3 d_law_collection G rfl (aQ0 (dv 0) (aQ0 (dv 2) (aQ0 (dv 5) (aQ0 (dv 4) aQ1))))))))))),?_⟩
 ·rintro ds S Q ⟨a,most,rfl,_⟩;rfl
 ·rintro ds S Q ⟨a,most,rfl,dk,hm,q⟩;refine⟨a,11,rfl,dk,by decide,by decide,λr1 S1 r10 r11 Z dk1=>?_⟩
  obtain⟨k,hk⟩:∃ k:Nat,2 + r1=(k:Int):=⟨(2 + r1).toNat,by omega⟩
  refine⟨a,k,congrArg (λz:Int=>[D.ref a,.int z]) hk,dk1,by omega,λnames S2 nd pw hnl ne no Y dk2=>?_⟩
  refine⟨a,6,rfl,dk2,by decide,by decide,λr2 S3 r20 r21 U dk3=>?_⟩
  have z:∀ n:Nat,n<=99->n<=sizeLine:=λn h=>z9999 (by omega)
  refine⟨z _ (by show 1<=99;decide),z _ (by show 3<=99;decide),z _ (by show 7<=99;decide),z _ (by show 1<=99;decide),z _ (by show 2<=99;decide),z _ (by show 5<=99;decide),?_⟩
  refine⟨a,5,rfl,dk3,by decide,by decide,λJ S4 r30 r31 R dk4=>?_⟩
  obtain⟨j,hsz,sne,s99,s6⟩:∃ j:List Nat,atI [D.lst [.int (1 + r2)],.lst [.int 1,.int 2,.int 3],.lst [.int 0,.int 1,.int 2,.int 3,.int 4,.int 5,.int 6],.lst [.int 2],.lst [.int 2,.int 3]] J=some (.lst (j.map λk=>.int (k:Nat)))/\j≠[]/\j.length<=99/\∀ k∈j,k<=6:=by
   have h:J=0\/J=1\/J=2\/J=3\/J=4:=by omega
   rcases h with rfl | rfl | rfl | rfl | rfl
   ·refine⟨[(1 + r2).toNat],?_,by simp,by simp,λk hk=>by rw[aE.mp hk];omega⟩
    have e:((1 + r2).toNat:Int)=1 + r2:=by omega
    show some (D.lst [.int (1 + r2)])=some (.lst [.int ((1 + r2).toNat:Nat)]);rw[e]
   ·exact⟨[1,2,3],rfl,by simp,by simp,by decide⟩
   ·exact⟨[0,1,2,3,4,5,6],rfl,by simp,by simp,by decide⟩
   ·exact⟨[2],rfl,by simp,by simp,by decide⟩
   ·exact⟨[2,3],rfl,by simp,by simp,by decide⟩
  refine⟨_,_,rfl,hsz,?_⟩;refine⟨a,((most:Int) + 1),rfl,dk4,by omega,by omega,λr4 S5 r40 r41 O dk5=>?_⟩
  refine⟨z _ (by show 2<=99;decide),a,2,rfl,dk5,by decide,by decide,λr5 S6 r50 r51 N dk6=>?_⟩
  obtain⟨c,hc,hcm⟩:∃ c:Nat,atI [D.int r4,.int most] r5=some (.int (c:Nat))/\c<=most:=by
   have h:r5=0\/r5=1:=by omega
   rcases h with rfl | rfl
   ·refine⟨r4.toNat,?_,by omega⟩
    have e:((r4.toNat:Nat):Int)=r4:=by omega
    rw[e];rfl
   ·exact⟨most,rfl,Nat.le_refl _⟩
  refine⟨_,_,rfl,hc,?_⟩;refine⟨a,names,c,j,6,rfl,dk6,nd,by omega,by omega,sne,s99,s6,by decide,λts S7 tnd tpw ht tl L dk7=>aQa (q ts S7 (CollB.of (by omega) ne tnd tpw ht (by omega)) (λz=>by obtain⟨t,h,hx⟩:=mem_nms.mp z;exact no ((ht t h).2.2.1 _ hx)) ?_ dk7)⟩
  exact Z.trans (Y.trans (U.trans (R.trans (O.trans (N.trans L)))))
end
abbrev s_law_held:Stmt:=top 20
theorem sc_law_held:FnScope ["sets", "found", "one"] ["sets"] (aQ4 s_law_held):=fsc
def aXe:SpD:=λds S Q=>∃ (ts:List (List Str)),ds=[.tup (ts.map tupS)]/\ts.length<=20/\(∀ t∈ts,t.length<=12)/\Q (.lst ((nms ts).map D.str)) S
section
variable {P:aC} {w:aO} {K:ap} {mg:Str->Option ad} {base:a9} {pt cc:Addr}
theorem bJy (T:Tx K mg "_law_held" s_law_held) (B:Bs mg):Df P w K mg base 1 "_law_held" ["sets"] (spU K aXe):=by
 refine aZf T sc_law_held (λF=>F.binds λ_ _ _ _ _ _=>us1 λ_=>rfl) ?_ λf cdv A outer s H E hr=>⟨_,(aQ2 (aQe (i:=1) sc_law_held.nd rfl (bp rfl) (aZu (b:=true) aQ1))
  (aQ2 (cQp gL rfl (aZp (dv 0)) (aXu (i:=2) sc_law_held.nd rfl (bp rfl)) (aQ6 (bJm (dQ1 (dv 1) (aQ0 (dv 2) aQ1)))))
  (aQ6 (aQf (bXn (b:=false) hr rfl B.sorted rfl B.set (dv 1)))))),?_⟩
 ·rintro ds S Q ⟨ts,rfl,_⟩;rfl
 ·rintro ds S Q ⟨ts,rfl,hl,he,q⟩;have fl:∀ l:List (List Str),(∀ t∈l,t.length<=12)->l.flatten.length<=12 * l.length:=λl=>by
   induction l with
   | nil=>intro _;exact Nat.le_refl _
   | cons t l ih =>
    intro h;have h1:=h t ao;have h2:=ih λu L=>h u (aq _ L);rw[List.flatten_cons,av,aV];omega
  refine⟨z9999 (by decide),λO R=>?_⟩
  refine⟨_,rfl,bZm (λi Γ S'=>∃ Y:Option D,Γ=[some (.tup (ts.map tupS)),some (.ref O),Y]/\S' O=some (.lst ((ts.take i).flatten.map D.str))/\∀ b,b≠O->S' b=S b) ⟨none,rfl,aQ7,λb J=>aQ9 J⟩ ?_ ?_⟩
  ·rintro i x Γ S1 N G ⟨U,rfl,hf,j⟩ hN;rw[ba,dh] at G;obtain⟨t,G,rfl⟩:=G;have e1:(ts.take (i + 1)).flatten=(ts.take i).flatten++t:=by rw[dH,G,eD];simp
   have b1:=fl (ts.take i) λu L=>he u (b5 L);have b2:=he t (ak G);rw[aQ] at b1;refine⟨trivial,⟨_,hf⟩,_,hf,z9999 (by rw[aj,aj];omega),hN _ _ ⟨_,rfl,?_,λb J=>(aQ9 J).trans (j b J)⟩⟩
   rw[aQ7,e1,bS]
  rintro Γ S1 ⟨U,rfl,hf,j⟩;rw[aj,dX] at hf;have fb:=fl ts he;refine⟨trivial,ts.flatten,hf,by omega,λns Z nm z=>aXx (S':=S) (λb o e=>(j b (by rintro rfl;rw[R] at e;cases e)).trans e) ?_⟩
  rw[fZ2 z λx=>(nm x).trans List.mem_flatten];exact q
end
abbrev s_law_in_any_order:Stmt:=top 22
theorem sc_law_in_any_order:FnScope ["pile", "things", "left"] ["pile", "things"] (aQ4 s_law_in_any_order):=fsc
def aZg:SpD:=λds S Q=>∃ (a:Addr) (z:Str),ds=[.ref a,.str z]/\z.length<=60/\Pile S a/\∀ (ys:List Str) S',ys.Perm (z.cps.toList.map λc=>(⟨#[c]⟩:Str))->Off a S S'->Pile S' a->Q (.lst (ys.map D.str)) S'
section
variable {P:aC} {w:aO} {K:ap} {mg:Str->Option ad} {base:a9} {pt cc:Addr}
theorem aXf (T:Tx K mg "_law_in_any_order" s_law_in_any_order) (B:Bs mg) (d_law_next:Df P w K mg base 1 "_law_next" ["pile", "most"] (spU K aQq)):Df P w K mg base 2 "_law_in_any_order" ["pile", "things"] (spU K aZg):=by
 refine aZf T sc_law_in_any_order (λF=>F.binds λ_ _ _ _ _ _=>us2 λ_ _=>rfl) ?_ λf cdv A outer s H E Y=>⟨_,(aQ2 (aQe (i:=2) sc_law_in_any_order.nd rfl (gK rfl) (cJy (b:=true) rfl B.list (aQ0 (dv 1) aQ1)))
  (aQ6 (aQf (aQt (N':=["k", "left", "pile"]) (oc:=none) (b:=false) [0] [] rfl sc_law_in_any_order.nd (λ_ _ _=>aQ8 _ _ _ _ _ _ _ _ _) (.own (.cap (i:=2) rfl (by decide +kernel) (.cap (i:=0) rfl (by decide +kernel) .nil))) (aQj rfl) (aZq rfl B.range (aQ0 (bXh rfl B.len (aQ0 (dv 1) aQ1)) aQ1)) (cg_name (i:=0)) (λ_ _ _ _ _=>aQb (i:=0) (nd_ ["k", "left", "pile"]) rfl (bp rfl) (.inr rfl)) (λ_ _ _ _ _=>aQn) aQi (λ_ _ _ _ _ _=>aQh rfl (by exact PD.o (cJo (dv 1) (aQ0 (aQ3 d_law_next Y rfl (aQ0 (dv 2) (aQ0 (bXh rfl B.len (aQ0 (dv 1) aQ1)) aQ1))) aQ1)))))))),?_⟩
 ·rintro ds S Q ⟨a,z,rfl,_⟩;rfl
 ·rintro ds S Q ⟨a,z,rfl,hz,dk,q⟩;have N:(z.cps.toList.map λc=>(⟨#[c]⟩:Str)).length=z.length:=by rw[aj,aK];rfl
  have e0:(z.cps.toList.map λc=>D.str ⟨#[c]⟩)=(z.cps.toList.map λc=>(⟨#[c]⟩:Str)).map D.str:=by rw[bd];rfl
  refine⟨by omega,?_⟩
  show newL true (z.cps.toList.map λc=>D.str ⟨#[c]⟩) S _;rw[e0];generalize (z.cps.toList.map λc=>(⟨#[c]⟩:Str))=ls at N q;intro O J;have j:=dk.ne J;refine⟨z9999 (by omega),⟨by omega,by omega⟩,?_⟩
  rw[bR,<- N];refine cQx j (xs:=ls.map D.str) aQ7 (by rw[aj];exact Nat.le_refl _) (by rw[aj];omega) (dk.supd j) λvs us S' pm R Z L G=>?_
  have U:us=[]:=by
   have:=pm.length_eq
   rw[av,aj] at this;exact bV (by omega)
  subst U;obtain⟨as,bs,rfl,e,pn⟩:=bXp (f:=D.str) dStr' (λ_=>rfl) pm;rw[List.map_eq_nil_iff.mp e.symm,ci] at pn;refine aXx (S':=sdel S' O) bJh (q as _ pn (λb hb=>?_) (L.eq (aXc (cf j))))
  by_cases e:b=O
  ·subst e;rw[aXj,J]
  ·rw[aXc e,G b hb e,aQ9 e]
end
end Toy
namespace L2
open PySem PySem.Spec PyProof.Rows
end L2
set_option maxHeartbeats 2000000
namespace PySem
namespace F
end F
end PySem
namespace L2
open PySem PySem.Spec PyProof.Rows
theorem zk_entry:entryFor table "dict.update.loop" = some cg.«dict.update.loop»:=entryFor_of_tree (by kernel_rfl)
theorem zk_plain:plainId "dict.update.loop" = true:=by decide +kernel
end L2
namespace PySem
theorem F.ld_keys:typeLookup (.type "list") "keys" = pure none:=by
 rw[typeLookup_type,gk];kernel_rfl
theorem eZt {prog:aC} {w:aO} {A:aY} {E:ad->ai->Prop} {s:ai} {a:Addr} {xs:Array ad} {k:Nat} {sl:Array (Option ad)} {Q:Option ad->ai->Prop} (hA:A.handled=none)
  (hz:s.heap.get? a=some { cls:=.type "list",dict:=none,data:=.seq xs k,slots:=sl })
  (q:∀ h' tk,(∀ b o,s.heap.get? b=some o->h'.get? b=some o)->Q none { s with heap:=h',toks:=tk }):aD (aF prog w) A (getAttr? (.ref a) "keys") Q E s:=by
 obtain⟨h,g,d,t,os⟩:=s;have ty:∀ j,(⟨h,g,d,j,os⟩:ai).TypeIs (.ref a) "list":=λ_=>⟨_,hz,rfl⟩;have f1:=sub_AttributeError;have D:=F.slot_list_getattribute.lookup;have f4:=F.slot_list_getattribute.bind (.ref a);have f5:=am_list_getattr_none;unfold getAttr? getAttrBy? getAttrBy
 repeat (any_goals (first | assumption | exact ty _ | ((with_reducible show aD _ _ (call (ad.builtin "list.__getattribute__") _ _) _ _ _);refine g6 F.slot_list_getattribute (ty _) am_entry_list_getattribute (F.args_list_getattribute_2 _ _) (meets_getattribute_miss_list a xs k sl "keys" _ F.ld_keys (by decide +kernel) (by size_fits)) ⟨hz,by simp[hA],λh' tk e z=>?_⟩) | wp_step))
 obtain⟨j,B,he⟩:=z.there;show aD _ _ (getattributeRaised _ _ _ _ _ _ _) _ _ _;unfold getattributeRaised
 repeat (any_goals (first | assumption | wp_step))
 exact q _ _ z.keeps
end PySem
namespace L2
open PySem PySem.Spec PyProof.Rows
def PrAt (h:a9) (v u x:ad):Prop:=∃ t o n,v=.ref t/\h.get? t=some o/\o.cls=.type "tuple"/\o.data=.seq #[u,x] n
section
variable {prog:aC} {w:aO} {A:aY} {E:ad->ai->Prop} {a d I:Addr} {its:Array ad}
theorem eZu {L:List (Key × ad)} (hh:A.handled=none) (ne:a≠I) (da:d≠a) (dI:d≠I) (hl:its.size=L.length) {R:Result->ai->Prop} :
  ∀ (n i:Nat) (s:ai) (kvs:List (Key × ad)),L.length - i=n->i<=L.length->s.heap.IsListIter I a i->s.heap.IsList a its->(∀ (j:Nat) (v:ad),its[j]?=some v->∃ u k x,PrAt s.heap v u x/\v≠.ref I/\v≠.ref d/\L[j]?=some (k,x)/\(aQk prog w).is k u=true) ->
  s.heap.DictOf (aQk prog w) d kvs->kvs.length + n<=sizeLine ->
  (∀ h' tk,h'.DictOf (aQk prog w) d ((L.drop i).foldl (λm p=>stored m p.1 p.2) kvs)->(∀ c o,c≠I->c≠d->s.heap.get? c=some o->h'.get? c=some o)->R (.ok (.ret .none)) { s with heap:=h',toks:=tk }) ->
  fj (aF prog w) A (.builtin "dict.update.loop" ⟨[.ref d,.ref I,fw i,.none],[]⟩) R s:=by
 intro n
 induction n with
 | zero =>
  intro i s kvs hi hi' st sl hp hd hz hR;refine cj zk_entry ?_;rw[bQ zk_plain _];show aD _ A.in1 (eV (.ref I) >>= _) _ _ s;have e:i=its.size:=by omega
  subst e;refine aa ((Walks.list (A:=A.in1) (by simp[hh]) I a ne its).done s _ _ ⟨st,sl⟩ λh' tk x=>aa (ae (ae ?_)))
  have e:=hR h' tk;rw[bO (by omega)] at e
  refine e ?_ λc o U _=>x c o (λz=>U (aE.mp z));obtain⟨o,es,ep,B,r⟩:=hd;exact⟨o,es,ep,x d o (λz=>dI (aE.mp z)) B,r⟩
 | succ n ih =>
  intro i s kvs hi hi' st sl hp hd hz hR;refine cj zk_entry ?_;rw[bQ zk_plain _];show aD _ A.in1 (eV (.ref I) >>= _) _ _ s;refine aa ((Walks.list (A:=A.in1) (by simp[hh]) I a ne its).item i s _ _ (by omega) ⟨st,sl⟩ λv h1 Z hv q x=>?_)
  obtain⟨q,sl1⟩:=q;obtain⟨u,k,y,⟨t,o,m,rfl,B,hc,G⟩,O,nd,Y,D⟩:=hp i v hv;have J:∀ b o,b≠I->s.heap.get? b=some o->h1.get? b=some o:=λb o n=>x b o (λz=>n (aE.mp z));have tI:t≠I:=λz=>O (by rw[z])
  have td:t≠d:=λz=>nd (by rw[z])
  have hd1:h1.DictOf (aQk prog w) d kvs:=by
   obtain⟨o,es,ep,B,r⟩:=hd;exact⟨o,es,ep,J d o dI B,r⟩
  refine aa (bh ?_);have pr:=J t o tI B;have ty:iy { s with heap:=h1,toks:=Z } (.ref t) "tuple":=⟨_,pr,hc⟩
  refine aa (wpAny_tryCatch ?_);unfold cg.Dict.pairItems;refine aa (eQ ty ?_);rw[if_pos (by decide)]
  refine aa (eH pr G (ae ?_));show aD _ A.in1 (fG [u,y] (dictSet d u y)) _ _ _;refine bh (wpAny_dictSet_pairs D hd1 (λh2 hd2 N=>ae ⟨er zk_plain _,?_⟩) (by omega))
  have le:i < L.length:=by omega
  refine ih (i + 1) _ (stored kvs k y) (by omega) (by omega) (by obtain⟨o,g1,g2⟩:=q;exact⟨o,N.extBut _ _ (cf dI) g1,g2⟩) (sl1.extBut N.extBut (cf da)) (λj v hv=>?_) hd2 (by have:=stored_length_le kvs k y;omega) λh' tk e z=>hR h' tk ?_ λc o U n2 g=>z c o U n2 (N.extBut _ _ n2 (J c o U g))
  ·obtain⟨u,k,y,⟨t,o,m,rfl,B,hc,G⟩,O,nd,Y,D⟩:=hp j v hv;exact⟨u,k,y,⟨t,o,m,rfl,N.extBut _ _ (λz=>nd (by rw[z])) (J t o (λz=>O (by rw[z])) B),hc,G⟩,O,nd,Y,D⟩
  ·rw[bY le];have ee:L[i]=(k,y):=by
    rw[af le] at Y;exact aR Y
   rw[ee];exact e
theorem eZv {s:ai} {L:List (Key × ad)} {Q:ad->ai->Prop} {k:Nat} {sl:Array (Option ad)} (hh:A.handled=none) (ls:s.heap.get? a=some { cls:=.type "list",dict:=none,data:=.seq its k,slots:=sl }) (hl:its.size=L.length)
  (hp:∀ (j:Nat) (v:ad),its[j]?=some v->∃ u k x,PrAt s.heap v u x/\L[j]?=some (k,x)/\(aQk prog w).is k u=true) (hz:L.length<=sizeLine)
  (q:∀ h' tk d,s.heap.objs.size<=d->h'.DictOf (aQk prog w) d (L.foldl (λm p=>stored m p.1 p.2) [])->(∀ c o,s.heap.get? c=some o->h'.get? c=some o)->Q (.ref d) { s with heap:=h',toks:=tk }) :
  aD (aF prog w) A (call (.type "dict") [.ref a]) Q E s:=by
 refine callType_codes (Q₁:=λobj s1=>obj=.ref s.heap.objs.size/\s1={ s with heap:=s.heap.push { cls:=.type "dict",data:=.dict #[] } }) F.kt_called_dict (F.kt_typeCall_dict_1 _) F.entry_dict_init (kt_code_dict_new _ ⟨rfl,rfl⟩) ?_
 rintro obj s1 ⟨rfl,rfl⟩;have new:(s.heap.push { cls:=.type "dict",data:=.dict #[] }).DictOf (aQk prog w) s.heap.objs.size []:=a9.DictOf.new s.heap;refine⟨new.typeIs,F.args_dict_init_2 _ _,?_⟩;unfold cg.«dict.__init__» cg.Dict.selfAndRest;refine aa (aa (wpAny_notOrdered_dict new.typeIs ?_));refine ae ?_;have up:∀ c o,s.heap.get? c=some o->(s.heap.push { cls:=.type "dict",data:=.dict #[] }).get? c=some o:=λc o x=>ag _ x;show aD _ _ (i3 "dict.__init__" s.heap.objs.size (.ref a) [] .none) _ _ _;unfold i3;have ty:iy { s with heap:=s.heap.push { cls:=.type "dict",data:=.dict #[] } } (.ref a) "list":=⟨_,up _ _ ls,rfl⟩
 refine aa (eQ ty ?_);rw[if_pos (by decide)]
 refine aa (eZt (by simp[hh]) (up _ _ ls) λh1 tk x=>?_)
 rw[if_pos (show(none:Option ad).isNone=true from rfl)]
 have kp:∀ c o,s.heap.get? c=some o->h1.get? c=some o:=λc o e=>x c o (up c o e);have R:∀ {h:a9},(∀ c o,s.heap.get? c=some o->h.get? c=some o)->h.IsList a its:=λ{h} k=>⟨_,k _ _ ls,rfl,_,rfl⟩;refine aa (c7 (aa (d9 (R kp) ?_)));have nd:∀ c o,s.heap.get? c=some o->s.heap.objs.size≠c:=λc o e=>Nat.ne_of_gt (az e);have G:s.heap.objs.size < h1.objs.size:=by
  obtain⟨o,es,U,D,_⟩:=new;exact az (x _ _ D)
 have N:∀ c o,s.heap.get? c=some o->h1.objs.size≠c:=λc o e=>Nat.ne_of_gt (Nat.lt_trans (az e) G);have B:∀ c o,h1.get? c=some o->(h1.push { cls:=.type "list_iterator",data:=.fields #[.ref a,.int 0 0] }).get? c=some o:=λc o e=>ag _ e;refine ae ⟨er zk_plain _,?_⟩;refine eZu (L:=L) (a:=a) (I:=h1.objs.size) (by simp[hh]) (cf (N _ _ ls)) (nd _ _ ls) (Nat.ne_of_lt G) hl L.length 0 _ [] rfl (Nat.zero_le _) ⟨_,ax _ rfl,rfl,rfl⟩ (R λc o e=>B c o (kp c o e)) (λj v Y=>?_) ?_ (by simpa using hz) λh' J hd y=>?_
 ·obtain⟨u,k,y,⟨t,o,m,rfl,D,r⟩,Z,O⟩:=hp j v Y;exact⟨u,k,y,⟨t,o,m,rfl,B _ _ (kp _ _ D),r⟩,λz=>by cases z;exact N _ _ D rfl,λz=>by cases z;exact nd _ _ D rfl,Z,O⟩
 ·obtain⟨o,es,U,D,r⟩:=new;exact⟨o,es,U,B _ _ (x _ _ D),r⟩
 ·exact⟨rfl,q h' J _ (Nat.le_refl _) hd λc o e=>y c o (cf (N _ _ e)) (cf (nd _ _ e)) (B _ _ (kp c o e))⟩
end
def rLd (K:Fg):List V->Hp->VK->Prop:=λxs H Q=>∃ (a:Addr) (us:List V) (kvs:List (Key × V)),xs=[.ref a]/\SqL K H a us/\bb (λu p=>∃ t,u=.ref t/\SqT K H t [kV p.1,p.2]) us kvs/\(kvs.map (·.1)).Nodup/\∀ p,H p=none->Q (.ref p) (upd H p (.dK kvs))
section
variable {X:Cx} {K:Fg} {pos:Pos} {k:Nat}
theorem dQg {pins:List (Addr × Obj)} {σ:St} {H:Hp} {s:ai} (I:Inv X pins σ H s):∀ {us:List V} {kvs:List (Key × V)} {its:List ad},bb (λu p=>∃ t,u=.ref t/\SqT X.K H t [kV p.1,p.2]) us kvs->Vals us its ->
  ∃ L:List (Key × ad),L.length=its.length/\KV kvs L/\L.map (·.1)=kvs.map (·.1)/\∀ (j:Nat) (v:ad),its[j]?=some v->∃ u k x,PrAt s.heap v u x/\L[j]?=some (k,x)/\(aQk X.prog X.w).is k u=true
 | _,_,_,.nil,.nil=>⟨[],rfl,.nil,rfl,λj v h=>by simp at h⟩
 | _,_,_,.cons (b:=p) h t,.cons r z=>by
  obtain⟨L,O,N,J,G⟩:=dQg I t z;obtain⟨a,rfl,sq⟩:=h;cases r;obtain⟨its,q,⟨o,R,U,n,hd⟩,_⟩:=I.tuple sq;obtain⟨u,x,rfl,D,B⟩:=eXk q;refine⟨(p.1,x)::L,by rw[aV,aV,O],.cons ⟨rfl,B⟩ N,by rw[bi,bi,J],λj v h=>?_⟩
  cases j with
  | zero=>cases h;exact⟨u,p.1,x,⟨a,o,n,rfl,R,U,hd⟩,rfl,eQz D⟩
  | succ j=>exact G j v h
theorem eZw (hK:X.K=K:=by rfl) (hc:X.calm=true:=by rfl):CallR X (.type "dict") (rLd K):=by
 subst hK;intro pins s σ H xs us Q I r h;obtain⟨a,ws,z,rfl,sq,pp,nd,q⟩:=h;obtain⟨u,rfl,ru⟩:=r.one;cases ru;obtain⟨its,J,⟨⟨oc,od,dt,sl⟩,n,e,G,hd,B⟩,R⟩:=I.list sq;dsimp only at G hd B;subst G hd B;obtain⟨L,N,Z,O,Y⟩:=dQg I pp J;refine eZv (L:=L) (I.ok.hd hc) e (by rw[am,N]) (λj v hv=>Y j v (by simpa using hv)) (by rw[N,<- J.length];exact R) λh' U d ln D y=>?_
 have hk:L.foldl (λm p=>stored m p.1 p.2) []=L:=merged_nil_of_nodup _ (by rw[O];exact nd)
 rw[hk] at D;have kl:z.length=L.length:=by have:=congrArg e8 O;simpa using this.symm
 exact⟨.ref d,_,I.laid (a:=d) (o:=.dK z) (t':=U) (λc o e=>y c o e) ln (fQg (by rw[kl,N,<- J.length];exact R) (beq_eq_false_iff_ne.mpr (cf (Nat.ne_of_lt (Nat.lt_of_lt_of_le I.big ln)))) Z D),rfl,q d (I.hok.fresh ln)⟩
end
section
variable {X:Cx} {K:Fg} {pos:Pos} {k:Nat}
def ldD:RCD:=λds S Q=>∃ (d:D) (rows:List (Str × D)),ds=[d]/\lsIs S d (rows.map λp=>D.tup [.str p.1,p.2])/\(rows.map (·.1)).Nodup/\∀ p,S p=none->Q (.ref p) (supd S p (.dk (rows.map λq=>((c5 q.1:Key),q.2))))
theorem dJ2 {M:Am} {H:Hp}:∀ {rows:List (Str × D)} {us:List V},RepL K M H (rows.map λp=>D.tup [.str p.1,p.2]) us->∃ kvs:List (Key × V),bb (λu p=>∃ t,u=.ref t/\SqT K H t [kV p.1,p.2]) us kvs/\kvs.map (·.1)=rows.map (λq=>(c5 q.1:Key))/\bb (λ(p:Key × V) (q:Key × D)=>p.1=q.1/\RepV K M H q.2 p.2) kvs (rows.map λq=>((c5 q.1:Key),q.2))
 | [],us,h=>by
  rw[dP] at h;unfold RepL at h;subst h;exact⟨[],.nil,rfl,.nil⟩
 | q::rows,us,h=>by
  rw[bi] at h;unfold RepL at h;obtain⟨v,G,rfl,z,h2⟩:=h;obtain⟨kvs,g1,g2,g3⟩:=dJ2 h2;unfold RepV at z;obtain⟨a,xs,rfl,ta,l⟩:=z;obtain⟨x,y,rfl,j,B⟩:=l.two;unfold RepV at j;subst j;exact⟨(c5 q.1,y)::kvs,.cons ⟨a,rfl,ta.sq⟩ g1,by rw[bi,bi,g2],.cons ⟨rfl,B⟩ g3⟩
theorem eZx {e:Expr} {t:AD} {p:Pos} (hg:Gl X "dict") (hm:X.mg "dict" = none) (ha:PAD K X [e] t) (hK:X.K=K:=by rfl) (hc:X.calm=true:=by rfl) (he:ay [e] X.env=(false,eval e X.env)::ay [] X.env:=by rfl) (hpl:(cD pos (ay [] X.env)).any (·.1)=false:=by rfl):PD K X (.Call (.Name "dict" p) [e] [] pos) (dCB ldD t):=aJg (eZw hK hc) (by
 intro F S H ds J Q QD r l h c;obtain⟨d,rows,rfl,hl,nd,q⟩:=h;obtain⟨v,rfl,D⟩:=l.one;obtain⟨a,us,rfl,sq,G⟩:=lsIs.sl r D hl;obtain⟨B,g1,g2,g3⟩:=dJ2 G;refine⟨a,us,B,rfl,sq,g1,?_,λp j=>?_⟩
 ·rw[g2,show(rows.map λq=>(c5 q.1:Key))=(rows.map (·.1)).map c5 by rw[bd];rfl]
  exact List.Pairwise.map _ (λa b h z=>h (c5.inj z)) nd
 ·exact c (.ref p) (.ref p) _ (supd S p (.dk (rows.map λq=>((c5 q.1:Key),q.2)))) (Ext.mk' j) (r.mk' j ⟨_,aQg,Paired.imp (λ_ _ z=>⟨z.1,z.2.keep (Ext.mk' j).kp⟩) g3⟩) (by unfold RepV;rfl) (q p (r.sn j))) hg hm PyProof.Rows.boot_dict ha (by decide) (by decide) he hpl
end
end L2
set_option maxHeartbeats 1000000
namespace Toy
open PySem L2
abbrev s_law_named:Stmt:=top 23
theorem sc_law_named:FnScope ["pile", "sets", "ahead", "held", "letters"] ["pile", "sets", "ahead"] (aQ4 s_law_named):=fsc
def aX4:SpD:=λds S Q=>∃ (a:Addr) (ts:List (List Str)) (z:Str),ds=[.ref a,.tup (ts.map tupS),.str z]/\Pile S a/\ts.length<=20/\(∀ t∈ts,t.length<=12)/\(nms ts).length<=12/\z.length<=60/\∀ p (ms:List Str) S',S p=none->p≠a->ms.length=(nms ts).length->ms.Nodup->(∀ m∈ms,∃ c:Nat,97<=c/\c < 113/\m=z++(⟨#[c]⟩:Str))->S' p=some (.dk (zipK (nms ts) ms))->(∀ b,b≠a->b≠p->S' b=S b)->Pile S' a->Q (.ref p) S'
section
variable {P:aC} {w:aO} {K:ap} {mg:Str->Option ad} {base:a9} {pt cc:Addr}
theorem bXx (T:Tx K mg "_law_named" s_law_named) (B:Bs mg) (BD:mg "dict" = none) (d_law_held:Df P w K mg base 2 "_law_held" ["sets"] (spU K aXe)) (d_law_in_any_order:Df P w K mg base 2 "_law_in_any_order" ["pile", "things"] (spU K aZg)):Df P w K mg base 3 "_law_named" ["pile", "sets", "ahead"] (spU K aX4):=by
 refine aZf T sc_law_named (λF=>F.binds λ_ _ _ _ _ _=>us3 λ_ _ _=>rfl) ?_ λf cdv A outer s H E hr=>⟨_,(aQ2 (aQe (i:=3) sc_law_named.nd rfl (bp rfl) (aQ3 d_law_held hr rfl (aQ0 (dv 1) aQ1)))
  (aQ2 (aQe (i:=4) sc_law_named.nd rfl (bp rfl) (aQ3 d_law_in_any_order hr rfl (aQ0 (dv 0) (aQ0 aZm aQ1))))
  (aQ6 (aQf (eZx rfl BD (aQ0 (aQt (N':=["name", "letter", "ahead"]) (oc:=none) (b:=false) [0,1] [] rfl sc_law_named.nd (λ_ _ _=>aQ8 _ _ _ _ _ _ _ _ _) (.own (.own (.cap (i:=2) rfl (by decide +kernel) .nil))) (aQj rfl) (fQr rfl B.zip (aQ0 (dv 3) (aQ0 (dv 4) aQ1))) (cJc (i:=0) (j:=1)) (λ_ _ _ _ _=>dXa rfl (aXg (aQb (i:=0) (nd_ ["name", "letter", "ahead"]) rfl (bp rfl) (.inr rfl)) (aXg (aQb (i:=1) (nd_ ["name", "letter", "ahead"]) rfl (bp rfl) (.inr rfl)) bJ3))) (λ_ _ _ _ _=>aQn) aQi (λ_ _ _ _ _ _=>aQh rfl (by exact PD.o (bQ1 (aQ0 (dv 0) (aQ0 (aQz (k:=false) (dv 2) (dv 1)) aQ1)))))) aQ1)))))),?_⟩
 ·rintro ds S Q ⟨a,ts,z,rfl,_⟩;rfl
 ·rintro ds S Q ⟨a,ts,z,rfl,dk,hl,he,U,z60,q⟩;refine⟨ts,rfl,hl,he,a,a7 "abcdefghijklmnop",rfl,by decide,dk,λys S1 pm G O=>?_⟩
  have su:=aZ2 ts;generalize nms ts=us at U su q;have yl:ys.length=16:=pm.length_eq.trans (by decide +kernel)
  have yn:ys.Nodup:=pm.nodup_iff.mpr (by decide +kernel)
  have Z:∀ y∈ys,∃ c:Nat,97<=c/\c < 113/\y=(⟨#[c]⟩:Str):=λy R=>by
   obtain⟨c,hc,rfl⟩:=aH.mp (pm.mem_iff.mp R);exact⟨c,(by decide +kernel:∀ c∈(a7 "abcdefghijklmnop").cps.toList,97<=c) c hc,(by decide +kernel:∀ c∈(a7 "abcdefghijklmnop").cps.toList,c < 113) c hc,rfl⟩
  have gd:∀ k,k < ys.length->ys.getD k ⟨#[]⟩∈ys:=λk J=>by rw[ah,af J];exact cM J
  refine aJi (λi acc S'=>S'=S1/\acc=((aT i).map λk=>D.tup [.str (us.getD k ⟨#[]⟩),.str (z++ys.getD k ⟨#[]⟩)])) ⟨rfl,rfl⟩ ?_ ?_
  ·rintro i x acc S' N hx ⟨rfl,rfl⟩ hN;obtain⟨d,e,hd,L,rfl⟩:=bZn _ _ _ _ hx;rw[ba,dh] at hd L;obtain⟨n,hn,rfl⟩:=hd;obtain⟨y,R,rfl⟩:=L;have hi:i < us.length:=(aG.mp hn).1;have eg:us.getD i ⟨#[]⟩=n:=by rw[ah,hn];rfl
   have ey:ys.getD i ⟨#[]⟩=y:=by rw[ah,R];rfl
   obtain⟨c,_,_,rfl⟩:=Z y (ak R);refine⟨trivial,rfl,rfl,z9999 (by show z.length + 1<=9999;omega),z9999 (by show 2<=9999;decide),z9999 (by rw[aj,cR];omega),hN _ _ ⟨rfl,?_⟩⟩
   rw[fJ,bS,List.map_singleton,eg,ey]
  ·rintro acc S' ⟨rfl,rfl⟩;rw[bZo,aj,aj,yl,Nat.min_eq_left (by omega)]
   refine⟨trivial,_,(aT us.length).map λk=>(us.getD k ⟨#[]⟩,D.str (z++ys.getD k ⟨#[]⟩)),rfl,by show _=_;rw[bd];rfl,?_,λp hp=>?_⟩
   ·rw[bd,show((λx:Str × D=>x.fst) ∘ λk=>(us.getD k ⟨#[]⟩,D.str (z++ys.getD k ⟨#[]⟩)))=λk=>us.getD k ⟨#[]⟩ from rfl,cZ6]
    exact su.nodup
   ·have np:=O.ne hp;have ez:(jA (λq:Str × D=>((c5 q.fst:Key),q.snd)) (jA (λk=>(us.getD k ⟨#[]⟩,D.str (z++ys.getD k ⟨#[]⟩))) (aT us.length)))=zipK us ((aT us.length).map λk=>z++ys.getD k ⟨#[]⟩):=by
     have e1:us.map (c5:Str->Key)=(aT us.length).map λk=>(c5 (us.getD k ⟨#[]⟩):Key):=by
      conv=>lhs;rw[<- cZ6 us ⟨#[]⟩]
      rw[bd];rfl
     show _=(us.map (c5:Str->Key)).zip (((aT us.length).map λk=>z++ys.getD k ⟨#[]⟩).map D.str);rw[e1,bd,bd,List.zip_map']
     rfl
    rw[ez];refine aQa (q p _ _ ((G p np).symm.trans hp) np (by rw[aj,cR]) ?_ ?_ aQ7 (λb h1 h2=>(aQ9 h2).trans (G b h1)) (O.supd np))
    ·unfold g8;rw[bH];refine bz ?_ (f8 (n:=us.length));intro k k' J Y hlt e;have h1:=aP.mp J;have h2:=aP.mp Y;have e2:ys.getD k ⟨#[]⟩=ys.getD k' ⟨#[]⟩:=eZs e;rw[ah,ah,af (by omega),af (by omega)] at e2
     have:=(List.getElem_inj yn).mp e2
     omega
    ·intro m hm;obtain⟨k,J,rfl⟩:=aH.mp hm;obtain⟨c,c1,c2,e⟩:=Z _ (gd k (by have:=aP.mp J;omega))
     exact⟨c,c1,c2,by rw[e]⟩
end
abbrev s_law_renamed:Stmt:=top 21
theorem sc_law_renamed:FnScope ["sets", "turned"] ["sets", "turned"] (aQ4 s_law_renamed):=fsc
def aZn:SpD:=λds S Q=>∃ (p:Addr) (us ms:List Str) (ts:List (List Str)),ds=[.tup (ts.map tupS),.ref p]/\S p=some (.dk (zipK us ms))/\ms.length=us.length/\ts.length<=9000/\(∀ t∈ts,t.length<=20/\∀ n∈t,n∈us)/\Q (.tup ((srT (ts.map (cl us ms))).map tupS)) S
section
variable {P:aC} {w:aO} {K:ap} {mg:Str->Option ad} {base:a9} {pt cc:Addr}
theorem bQk (T:Tx K mg "_law_renamed" s_law_renamed) (B:Bs mg):Df P w K mg base 1 "_law_renamed" ["sets", "turned"] (spU K aZn):=by
 refine aZf T sc_law_renamed (λF=>F.binds λ_ _ _ _ _ _=>us2 λ_ _=>rfl) ?_ λf L A outer s H E j=>⟨_,(aQ6 (aQf (aQr rfl B.tuple (aQ0 (aQv (b:=false) j rfl B.sorted (aQ0 (aQt (N':=["one", "turned"]) (oc:=none) (b:=false) [0] [] rfl sc_law_renamed.nd (λ_ _ _=>aQ8 _ _ _ _ _ _ _ _ _) (.own (.cap (i:=1) rfl (by decide +kernel) .nil)) (aQj rfl) (aZp (dv 0)) (cg_name (i:=0)) (λ_ _ _ _ _=>aQb (i:=0) (nd_ ["one", "turned"]) rfl (bp rfl) (.inr rfl)) (λ_ _ _ _ _=>aQn) aQi (λ_ _ _ _ _ _=>aQh rfl (by exact PD.o (aQr rfl B.tuple (aQ0 (aQv (b:=false) j rfl B.sorted (aQ0 (aQt (N':=["name", "turned"]) (oc:=none) (b:=false) [0] [] rfl (nd_ ["one", "turned"]) (λ_ _ _=>aQ8 _ _ _ _ _ _ _ _ _) (.own (.cap (i:=1) rfl (by decide +kernel) .nil)) (aQj rfl) (aZp (dv 0)) (cg_name (i:=0)) (λ_ _ _ _ _=>aQb (i:=0) (nd_ ["name", "turned"]) rfl (bp rfl) (.inr rfl)) (λ_ _ _ _ _=>aQn) aQi (λ_ _ _ _ _ _=>aQh rfl (by exact PD.o (fZa j (dv 1) (dv 0))))) aQ1)) aQ1))))) aQ1)) aQ1)))),?_⟩
 ·rintro ds S Q ⟨p,us,ms,ts,rfl,_⟩;rfl
 ·rintro ds S Q ⟨p,us,ms,ts,rfl,G,hl,tl,he,q⟩;refine⟨_,rfl,aQp (enc:=tupS) (f:=λt=>tupS (cl us ms t)) (λt z Q q=>?_) (z9999 (by show 0 + ts.length<=9999;omega)) ?_⟩
  ·have J:=(he t z).1;refine⟨_,rfl,aQp (enc:=D.str) (f:=λn=>D.str (tr us ms n)) (λn hn Q q=>⟨_,_,_,G,rfl,dQb us ms n hl ((he t z).2 n hn),q⟩) (z9999 (by show 0 + t.length<=9999;omega)) ?_⟩
   exact .inl ⟨t.map (tr us ms),by rw[bD,bd];rfl,_,rfl,q⟩
  ·exact .inr (.inr ⟨ts.map (cl us ms),by rw[bD,bd];rfl,_,rfl,aQa q⟩)
end
abbrev s_meets:Stmt:=top 2
theorem sc_meets:FnScope ["one", "row"] ["one", "row"] (aQ4 s_meets):=fsc
section
variable {P:aC} {w:aO} {K:ap} {mg:Str->Option ad} {base:a9} {pt cc:Addr}
theorem dX8 (T:Tx K mg "meets" s_meets) (B:Bs mg):Df P w K mg base 1 "meets" ["one", "row"] (spU K aJj):=by
 refine aZf T sc_meets (λF=>F.binds λ_ _ _ _ _ _=>us2 λ_ _=>rfl) ?_ λf L A outer s H E G=>⟨_,(aQ6 (aQf (fQ4 rfl B.any (aQ0 (aQt (N':=["name", "one"]) (oc:=none) (b:=false) [0] [] rfl sc_meets.nd (λ_ _ _=>aQ8 _ _ _ _ _ _ _ _ _) (.own (.cap (i:=0) rfl (by decide +kernel) .nil)) (aQj rfl) (aZp (dv 1)) (cg_name (i:=0)) (λ_ _ _ _ _=>aQb (i:=0) (nd_ ["name", "one"]) rfl (bp rfl) (.inr rfl)) (λ_ _ _ _ _=>aQn) aQi (λ_ _ _ _ _ _=>aQh rfl (by exact PD.o (e_in G (dv 0) (dv 1))))) aQ1)))),?_⟩
 ·rintro ds S Q ⟨α,dα,E,one,row,j,J,rfl,_⟩;rfl
 ·rintro ds S Q ⟨α,dα,E,one,row,j,J,rfl,N,h1,h2,hl,q⟩;have go:∀ Q':List D->Sto->Prop,Q' (row.map λd=>D.bl (decide (d∈one))) S->aX1 (aZj 0) dYes (bZj (dOp (inD false) (dVar 0) (dVar 1))) (λ_=>True) [none,some j] (row.map E.e) [] S Q':=λQ' z =>
   aQp (f:=λd=>D.bl (decide (d∈one))) (λd hd Q q=>in_e (neg:=false) (E:=E) (by omega) h1.sq q) (z9999 (by show 0 + row.length<=_;omega)) z
  have e:(row.map λd=>decide (d∈one)).any id=mts one row:=by unfold mts;rw[List.any_map];rfl
  rw[<- e] at q;rcases h2 with rfl | rfl
  ·exact⟨row.map E.e,rfl,go _ ⟨row.map λd=>decide (d∈one),by show _=_;rw[bd];rfl,aQa q⟩⟩
  ·exact⟨row.map E.e,rfl,go _ ⟨row.map λd=>decide (d∈one),by show _=_;rw[bd];rfl,aQa q⟩⟩
end
abbrev s_without_row:Stmt:=top 6
theorem sc_without_row:FnScope ["sets", "row"] ["sets", "row"] (aQ4 s_without_row):=fsc
section
variable {P:aC} {w:aO} {K:ap} {mg:Str->Option ad} {base:a9} {pt cc:Addr}
theorem bQl (T:Tx K mg "without_row" s_without_row) (B:Bs mg) (d_meets:Df P w K mg base 1 "meets" ["one", "row"] (spU K aJj)):Df P w K mg base 2 "without_row" ["sets", "row"] (spU K aZ8):=by
 refine aZf T sc_without_row (λF=>F.binds λ_ _ _ _ _ _=>us2 λ_ _=>rfl) ?_ λf z A outer s H E j=>⟨_,(aQ6 (aQf (aQr rfl B.tuple (aQ0 (aQt (N':=["one", "row"]) (oc:=none) (b:=false) [0] [] rfl sc_without_row.nd (λ_ _ _=>aQ8 _ _ _ _ _ _ _ _ _) (.own (.cap (i:=1) rfl (by decide +kernel) .nil)) (aQj rfl) (aZp (dv 0)) (cg_name (i:=0)) (λ_ _ _ _ _=>aQb (i:=0) (nd_ ["one", "row"]) rfl (bp rfl) (.inr rfl)) (λ_ _ _ _ _=>aXv (by exact(aJ6 (aXk (aQ3 d_meets j rfl (aQ0 (dv 0) (aQ0 (dv 1) aQ1))))))) aQi (λ_ _ _ _ _ _=>aQh rfl (by exact PD.o (dv 0)))) aQ1)))),?_⟩
 ·rintro ds S Q ⟨ts,row,rfl,_⟩;rfl
 ·rintro ds S Q ⟨ts,row,rfl,hl,j,q⟩;refine⟨ts.map tupS,rfl,aZr (p:=λt=>!mts t row) (f:=tupS) (λt G Q q=>?_) (λx D _ Q q=>q) (z9999 (by show 0 + ts.length<=_;omega)) ⟨_,rfl,aQa q⟩⟩
  exact⟨Str,inferInstance,strE,t,row,tupS t,tupS row,rfl,by decide,.inl rfl,.inl rfl,j,q⟩
end
abbrev s_has_all:Stmt:=top 1
theorem sc_has_all:FnScope ["one", "row"] ["one", "row"] (aQ4 s_has_all):=fsc
section
variable {P:aC} {w:aO} {K:ap} {mg:Str->Option ad} {base:a9} {pt cc:Addr}
theorem cZr (T:Tx K mg "has_all" s_has_all) (B:Bs mg):Df P w K mg base 1 "has_all" ["one", "row"] (spU K aJ0):=by
 refine aZf T sc_has_all (λF=>F.binds λ_ _ _ _ _ _=>us2 λ_ _=>rfl) ?_ λf L A outer s H E G=>⟨_,(aQ6 (aQf (dZb rfl B.all (aQ0 (aQt (N':=["name", "one"]) (oc:=none) (b:=false) [0] [] rfl sc_has_all.nd (λ_ _ _=>aQ8 _ _ _ _ _ _ _ _ _) (.own (.cap (i:=0) rfl (by decide +kernel) .nil)) (aQj rfl) (aZp (dv 1)) (cg_name (i:=0)) (λ_ _ _ _ _=>aQb (i:=0) (nd_ ["name", "one"]) rfl (bp rfl) (.inr rfl)) (λ_ _ _ _ _=>aQn) aQi (λ_ _ _ _ _ _=>aQh rfl (by exact PD.o (e_in G (dv 0) (dv 1))))) aQ1)))),?_⟩
 ·rintro ds S Q ⟨α,dα,E,one,row,j,J,rfl,_⟩;rfl
 ·rintro ds S Q ⟨α,dα,E,one,row,j,J,rfl,N,h1,h2,hl,q⟩;have go:∀ Q':List D->Sto->Prop,Q' (row.map λd=>D.bl (decide (d∈one))) S->aX1 (aZj 0) dYes (bZj (dOp (inD false) (dVar 0) (dVar 1))) (λ_=>True) [none,some j] (row.map E.e) [] S Q':=λQ' z =>
   aQp (f:=λd=>D.bl (decide (d∈one))) (λd hd Q q=>in_e (neg:=false) (E:=E) (by omega) h1.sq q) (z9999 (by show 0 + row.length<=_;omega)) z
  have e:(row.map λd=>decide (d∈one)).all id=has one row:=by unfold has;rw[ef];rfl
  rw[<- e] at q;rcases h2 with rfl | rfl
  ·exact⟨row.map E.e,rfl,go _ ⟨row.map λd=>decide (d∈one),by show _=_;rw[bd];rfl,aQa q⟩⟩
  ·exact⟨row.map E.e,rfl,go _ ⟨row.map λd=>decide (d∈one),by show _=_;rw[bd];rfl,aQa q⟩⟩
end
abbrev s_without_names:Stmt:=top 3
theorem sc_without_names:FnScope ["one", "row"] ["one", "row"] (aQ4 s_without_names):=fsc
section
variable {P:aC} {w:aO} {K:ap} {mg:Str->Option ad} {base:a9} {pt cc:Addr}
theorem aJc (T:Tx K mg "without_names" s_without_names) (B:Bs mg):Df P w K mg base 1 "without_names" ["one", "row"] (spU K aZx):=by
 refine aZf T sc_without_names (λF=>F.binds λ_ _ _ _ _ _=>us2 λ_ _=>rfl) ?_ λf N A outer s H E J=>⟨_,(aQ6 (aQf (aQr rfl B.tuple (aQ0 (aQt (N':=["name", "row"]) (oc:=none) (b:=false) [0] [] rfl sc_without_names.nd (λ_ _ _=>aQ8 _ _ _ _ _ _ _ _ _) (.own (.cap (i:=1) rfl (by decide +kernel) .nil)) (aQj rfl) (aZp (dv 0)) (cg_name (i:=0)) (λ_ _ _ _ _=>aQb (i:=0) (nd_ ["name", "row"]) rfl (bp rfl) (.inr rfl)) (λ_ _ _ _ _=>aXv (by exact(dXt J (dv 0) (dv 1)))) aQi (λ_ _ _ _ _ _=>aQh rfl (by exact PD.o (dv 0)))) aQ1)))),?_⟩
 ·rintro ds S Q ⟨α,dα,E,one,row,L,j,rfl,_⟩;rfl
 ·rintro ds S Q ⟨α,dα,E,one,row,L,j,rfl,O,h1,h2,hl,q⟩;have go:∀ Q':List D->Sto->Prop,Q' ((wo one row).map E.e) S->aX1 (aZj 0) (bQg (dOp (inD true) (dVar 0) (dVar 1))) (bZj (dVar 0)) (λ_=>True) [none,some j] (one.map E.e) [] S Q':=λQ' z =>
   aZr (p:=λn=>!decide (n∈row)) (f:=E.e) (λx G Q q=>in_t (neg:=true) (E:=E) (by omega) h2.sq q) (λx G _ Q q=>q) (z9999 (by show 0 + one.length<=_;omega)) z
  rcases h1 with rfl | rfl
  ·exact⟨one.map E.e,rfl,go _ ⟨_,rfl,aQa q⟩⟩
  ·exact⟨one.map E.e,rfl,go _ ⟨_,rfl,aQa q⟩⟩
end
abbrev s_link_of:Stmt:=top 5
theorem sc_link_of:FnScope ["sets", "row"] ["sets", "row"] (aQ4 s_link_of):=fsc
def aX8:SpD:=λds S Q=>∃ (ts:List (List Str)) (x:Str),ds=[.tup (ts.map tupS),tupS [x]]/\ts.length<=20/\ts.Nodup/\(∀ t∈ts,Srt t/\t.length<=12)/\Q (.tup ((srT (lk ts x)).map tupS)) S
section
variable {P:aC} {w:aO} {K:ap} {mg:Str->Option ad} {base:a9} {pt cc:Addr}
theorem cZs (T:Tx K mg "link_of" s_link_of) (B:Bs mg) (d_has_all:Df P w K mg base 1 "has_all" ["one", "row"] (spU K aJ0)) (d_without_names:Df P w K mg base 1 "without_names" ["one", "row"] (spU K aZx)):Df P w K mg base 2 "link_of" ["sets", "row"] (spU K aX8):=by
 refine aZf T sc_link_of (λF=>F.binds λ_ _ _ _ _ _=>us2 λ_ _=>rfl) ?_ λf D A outer s H E j=>⟨_,(aQ6 (aQf (aQr rfl B.tuple (aQ0 (aQv (b:=false) j rfl B.sorted (aQ0 (aQt (N':=["one", "row"]) (oc:=none) (b:=false) [0] [] rfl sc_link_of.nd (λ_ _ _=>aQ8 _ _ _ _ _ _ _ _ _) (.own (.cap (i:=1) rfl (by decide +kernel) .nil)) (aQj rfl) (aZp (dv 0)) (cg_name (i:=0)) (λ_ _ _ _ _=>aQb (i:=0) (nd_ ["one", "row"]) rfl (bp rfl) (.inr rfl)) (λ_ _ _ _ _=>aXv (by exact(aXk (aQ3 d_has_all j rfl (aQ0 (dv 0) (aQ0 (dv 1) aQ1)))))) aQi (λ_ _ _ _ _ _=>aQh rfl (by exact PD.o (aQ3 d_without_names j rfl (aQ0 (dv 0) (aQ0 (dv 1) aQ1)))))) aQ1)) aQ1)))),?_⟩
 ·rintro ds S Q ⟨ts,x,rfl,_⟩;rfl
 ·rintro ds S Q ⟨ts,x,rfl,hl,nd,he,q⟩;refine⟨_,rfl,aZr (p:=λt=>has t [x]) (f:=λt=>tupS (wo t [x])) (λt z Q q=>⟨Str,inferInstance,strE,t,[x],tupS t,tupS [x],rfl,by decide,.inl rfl,.inl rfl,(by show 1<=9999;decide),q⟩) (λt z _ Q q=>⟨Str,inferInstance,strE,t,[x],tupS t,tupS [x],rfl,by decide,.inl rfl,.inl rfl,by have:=(he t z).2;omega,q⟩) (z9999 (by show 0 + ts.length<=_;omega)) ?_⟩
  have em:([]++(ts.filter λt=>has t [x]).map λt=>tupS (wo t [x]))=(lk ts x).map tupS:=by rw[bD,<- eZl,bd];rfl
  rw[em];have G:(lk ts x).length<=20:=by unfold lk;rw[aj];exact Nat.le_trans (cU _ _) hl
  exact .inr (.inr ⟨lk ts x,rfl,_,rfl,aQa q⟩)
end
abbrev s_hits:Stmt:=top 9
theorem sc_hits:FnScope ["row", "sets"] ["row", "sets"] (aQ4 s_hits):=fsc
def bZu:SpD:=λds S Q=>∃ (ts:List (List Str)) (row:List Str),ds=[tupS row,.tup (ts.map tupS)]/\ts.length<=20/\row.length<=99/\Q (.bl (hitB row ts)) S
section
variable {P:aC} {w:aO} {K:ap} {mg:Str->Option ad} {base:a9} {pt cc:Addr}
theorem eZy (T:Tx K mg "hits" s_hits) (B:Bs mg) (d_meets:Df P w K mg base 1 "meets" ["one", "row"] (spU K aJj)):Df P w K mg base 2 "hits" ["row", "sets"] (spU K bZu):=by
 refine aZf T sc_hits (λF=>F.binds λ_ _ _ _ _ _=>us2 λ_ _=>rfl) ?_ λf z A outer s H E j=>⟨_,(aQ6 (aQf (dZb rfl B.all (aQ0 (aQt (N':=["one", "row"]) (oc:=none) (b:=false) [0] [] rfl sc_hits.nd (λ_ _ _=>aQ8 _ _ _ _ _ _ _ _ _) (.own (.cap (i:=0) rfl (by decide +kernel) .nil)) (aQj rfl) (aZp (dv 1)) (cg_name (i:=0)) (λ_ _ _ _ _=>aQb (i:=0) (nd_ ["one", "row"]) rfl (bp rfl) (.inr rfl)) (λ_ _ _ _ _=>aQn) aQi (λ_ _ _ _ _ _=>aQh rfl (by exact PD.o (aQ3 d_meets j rfl (aQ0 (dv 0) (aQ0 (dv 1) aQ1)))))) aQ1)))),?_⟩
 ·rintro ds S Q ⟨ts,row,rfl,_⟩;rfl
 ·rintro ds S Q ⟨ts,row,rfl,hl,j,q⟩;rw[<- eZk] at q;refine⟨_,rfl,aQp (f:=λt=>D.bl (mts t row)) (λt G Q q=>⟨Str,inferInstance,strE,t,row,tupS t,tupS row,rfl,by decide,.inl rfl,.inl rfl,by omega,q⟩) (z9999 (by show 0 + ts.length<=_;omega)) ⟨ts.map λt=>mts t row,by show _=_;rw[bd];rfl,aQa q⟩⟩
end
abbrev s_has_some_set:Stmt:=top 12
theorem sc_has_some_set:FnScope ["row", "sets"] ["row", "sets"] (aQ4 s_has_some_set):=fsc
def aQu:SpD:=λds S Q=>∃ (ts:List (List Str)) (row:List Str),ds=[tupS row,.tup (ts.map tupS)]/\ts.length<=20/\(∀ t∈ts,t.length<=99)/\Q (.bl (hasS row ts)) S
section
variable {P:aC} {w:aO} {K:ap} {mg:Str->Option ad} {base:a9} {pt cc:Addr}
theorem bQc (T:Tx K mg "has_some_set" s_has_some_set) (B:Bs mg) (d_has_all:Df P w K mg base 1 "has_all" ["one", "row"] (spU K aJ0)):Df P w K mg base 2 "has_some_set" ["row", "sets"] (spU K aQu):=by
 refine aZf T sc_has_some_set (λF=>F.binds λ_ _ _ _ _ _=>us2 λ_ _=>rfl) ?_ λf G A outer s H E j=>⟨_,(aQ6 (aQf (fQ4 rfl B.any (aQ0 (aQt (N':=["one", "row"]) (oc:=none) (b:=false) [0] [] rfl sc_has_some_set.nd (λ_ _ _=>aQ8 _ _ _ _ _ _ _ _ _) (.own (.cap (i:=0) rfl (by decide +kernel) .nil)) (aQj rfl) (aZp (dv 1)) (cg_name (i:=0)) (λ_ _ _ _ _=>aQb (i:=0) (nd_ ["one", "row"]) rfl (bp rfl) (.inr rfl)) (λ_ _ _ _ _=>aQn) aQi (λ_ _ _ _ _ _=>aQh rfl (by exact PD.o (aQ3 d_has_all j rfl (aQ0 (dv 1) (aQ0 (dv 0) aQ1)))))) aQ1)))),?_⟩
 ·rintro ds S Q ⟨ts,row,rfl,_⟩;rfl
 ·rintro ds S Q ⟨ts,row,rfl,hl,j,q⟩;have e:(ts.map λt=>has row t).any id=hasS row ts:=by unfold hasS;rw[List.any_map];rfl
  rw[<- e] at q;refine⟨_,rfl,aQp (f:=λt=>D.bl (has row t)) (λt z Q q=>⟨Str,inferInstance,strE,row,t,tupS row,tupS t,rfl,by decide,.inl rfl,.inl rfl,by have:=j t z;omega,q⟩) (z9999 (by show 0 + ts.length<=_;omega)) ⟨ts.map λt=>has row t,by show _=_;rw[bd];rfl,aQa q⟩⟩
end
abbrev s_least_rows:Stmt:=top 8
theorem sc_least_rows:FnScope ["sets", "name", "others", "left", "with_it", "needed", "without_it"] ["sets"] (aQ4 s_least_rows):=fsc
def aJk (n:Nat):SpD:=λds S Q=>∃ (ts:List (List Str)),ds=[.tup (ts.map tupS)]/\(nms ts).length < n/\ts.length<=20/\SrtT ts/\(∀ t∈ts,Srt t/\t.length<=12)/\(nms ts).length<=15/\∀ out,IsL ts out->Q (.tup (out.map tupS)) S
def aZ4:SpD:=aJk 17
section
variable {P:aC} {w:aO} {K:ap} {mg:Str->Option ad} {base:a9} {pt cc:Addr}
theorem cZt {k n:Nat} (T:Tx K mg "least_rows" s_least_rows) (B:Bs mg) (d_without_row:Df P w K mg base k "without_row" ["sets", "row"] (spU K aZ8)) (d_link_of:Df P w K mg base k "link_of" ["sets", "row"] (spU K aX8)) (d_hits:Df P w K mg base k "hits" ["row", "sets"] (spU K bZu)) (d_has_some_set:Df P w K mg base k "has_some_set" ["row", "sets"] (spU K aQu)) (d_least_rows:Df P w K mg base k "least_rows" ["sets"] (spU K (aJk n))):Df P w K mg base (k + 1) "least_rows" ["sets"] (spU K (aJk (n + 1))):=by
 refine aZf T sc_least_rows (λF=>F.binds λ_ _ _ _ _ _=>us1 λ_=>rfl) ?_ λf cdv A outer s H E z=>⟨_,(aQ2 (aJa (eJw z (bQ1 aQ1) (dv 0)) (aQ6 (aQf (bQ1 aQ1))) aZa)
  (aQ2 (aJa (aJ6 (aXk (dv 0))) (aQ6 (aQf (bQ1 (aQ0 (bQ1 aQ1) aQ1)))) aZa)
  (aQ2 (aQe (i:=1) sc_least_rows.nd rfl (gK rfl) (bQ1 (aQ0 (e_ix (e_ix (dv 0) aQ5) aQ5) aQ1)))
  (aQ2 (aQe (i:=2) sc_least_rows.nd rfl (bp rfl) (aQ3 d_without_row z rfl (aQ0 (dv 0) (aQ0 (dv 1) aQ1))))
  (aQ2 (aQe (i:=3) sc_least_rows.nd rfl (gK rfl) (aQ3 d_link_of z rfl (aQ0 (dv 0) (aQ0 (dv 1) aQ1))))
  (aQ2 (cJm (i:=4) rfl (bp rfl) (N':=["row", "left", "name"]) (oc:=none) (b:=false) [0] [] rfl sc_least_rows.nd (λ_ _ _=>aQ8 _ _ _ _ _ _ _ _ _) (.own (.cap (i:=3) rfl (by decide +kernel) (.cap (i:=1) rfl (by decide +kernel) .nil))) (aQj rfl) (aZp (aQ3 d_least_rows z rfl (aQ0 (dv 2) aQ1))) (cg_name (i:=0)) (λ_ _ _ _ _=>aQb (i:=0) (nd_ ["row", "left", "name"]) rfl (bp rfl) (.inr rfl)) (λ_ _ _ _ _=>aXv (by exact(aJ6 (aXk (aQ3 d_hits z rfl (aQ0 (dv 0) (aQ0 (dv 1) aQ1))))))) aQi (λ_ _ _ _ _ _=>aQh rfl (by exact PD.o (aQz (k:=false) (dv 2) (dv 0)))))
  (aQ2 (cJm (i:=5) rfl (bp rfl) (N':=["one", "left"]) (oc:=none) (b:=false) [0] [] rfl sc_least_rows.nd (λ_ _ _=>aQ8 _ _ _ _ _ _ _ _ _) (.own (.cap (i:=3) rfl (by decide +kernel) .nil)) (aQj rfl) (aZp (dv 2)) (cg_name (i:=0)) (λ_ _ _ _ _=>aQb (i:=0) (nd_ ["one", "left"]) rfl (bp rfl) (.inr rfl)) (λ_ _ _ _ _=>aXv (by exact(aJ6 (aXk (aQ3 d_has_some_set z rfl (aQ0 (dv 0) (aQ0 (dv 1) aQ1))))))) aQi (λ_ _ _ _ _ _=>aQh rfl (by exact PD.o (dv 0))))
  (aQ2 (aQe (i:=6) sc_least_rows.nd rfl (bp rfl) (aQ3 d_least_rows z rfl (aQ0 (aQr rfl B.tuple (aQ0 (aQv (b:=false) z rfl B.sorted (aQ0 (aQz (k:=false) (dv 5) (dXu (b:=false) rfl B.list (aQ0 (dv 3) aQ1))) aQ1)) aQ1)) aQ1)))
  (aQ6 (aQf (aQz (k:=false) (aQr rfl B.tuple (aQ0 (dv 4) aQ1)) (dv 6)))))))))))),?_⟩
 ·rintro ds S Q ⟨ts,rfl,_⟩;rfl
 ·rintro ds S Q ⟨ts,rfl,hn,hl,Y,he,h15,q⟩;have big:∀ n:Nat,n<=100000->n<=sizeLine:=λn h=>by rw[be];omega
  refine⟨z9999 (by decide),_,rfl,aZv ts,okT [] ts,_,rfl,ite2 (λc=>?_) λc=>?_⟩
  ·exact⟨z9999 (by decide),aQa (q [] (dQ4 (mem_tups.mp (of_decide_eq_true c))))⟩
  have R:[]∉ts:=λh=>c (decide_eq_true (mem_tups.mpr h));refine ite2 (λc2=>?_) λc2=>?_
  ·have e:ts=[]:=by cases ts with | nil=>rfl | cons _ _=>cases c2
   subst e;exact⟨z9999 (by decide),z9999 (by show 1<=9999;decide),aQa (q [[]] eZj)⟩
  obtain⟨x,G,hh⟩:∃ x G,ts.head?=some (x::G):=by
   cases ts with
   | nil=>exact absurd rfl c2
   | cons t ts =>
    cases t with
    | nil=>exact absurd ao R
    | cons x G=>exact⟨x,G,rfl⟩
  have J:(x::G)∈ts:=List.mem_of_head? hh;have hat:atI (ts.map tupS) 0=some (tupS (x::G)):=by
   cases ts with
   | nil=>cases hh
   | cons t ts=>cases hh;exact aZs (j:=0) rfl
  have U:atI ((x::G).map D.str) 0=some (D.str x):=aZs (j:=0) rfl;have hx:x∈nms ts:=mem_nms.mpr ⟨_,J,ao⟩;have O:∀ t∈ts,Srt t:=λt L=>(he t L).1;have hsm:=cZp Y O R hh;have f1:(nms (wor ts [x])).length < (nms ts).length:=bXs (λy hy=>dX0 hy) hx;have f2:(nms (srT (nxt ts x))).length < (nms ts).length:=bXs (λy hy=>dQ8 hy) hx;have ll:(srT (lk ts x)).length<=20:=by rw[(aQy _).length_eq];unfold lk;rw[aj];exact Nat.le_trans (cU _ _) hl
  have lne:lk ts x≠[]:=λe=>by
   have:wt (x::G) x∈lk ts x:=mem_lk.mpr ⟨_,J,ao,rfl⟩
   rw[e] at this;cases this
  have hwl:(wor ts [x]).length<=20:=Nat.le_trans (cU _ _) hl;have N:∀ t∈srT (lk ts x),t.length<=99:=λt L=>by
   obtain⟨u,hu,_,rfl⟩:=mem_lk.mp (mem_srT.mp L)
   have:=(he u hu).2
   exact Nat.le_trans (cU _ _) (by omega)
  refine⟨_,_,rfl,hat,_,_,rfl,U,z9999 (by show 1<=9999;decide),ts,[x],rfl,by omega,(by show 1<=9999;decide),ts,x,rfl,hl,Y.nodup,he,?_⟩
  refine⟨wor ts [x],rfl,by omega,hwl,cq _ Y,λt L=>he t (mem_wor.mp L).1,by omega,λa Z=>?_⟩
  have a15:a.length<=32768:=aZw Z (k:=15) (by omega)
  refine⟨_,rfl,aZr (p:=λr=>!hitB r (srT (lk ts x))) (f:=λr=>tupS (x::r)) (λr z Q q=>⟨srT (lk ts x),r,rfl,ll,by have:=bQb Z z (k:=15) (by omega);omega,q⟩) (λr z _ Q q=>⟨z9999 (by show 1 + (r.map D.str).length<=9999;rw[aj];have:=bQb Z z (k:=15) (by omega);omega),q⟩) (big _ (by show 0 + a.length<=_;omega)) ?_⟩
  refine⟨_,rfl,aZr (p:=λt=>!hasS t (srT (lk ts x))) (f:=tupS) (λt L Q q=>⟨srT (lk ts x),t,rfl,ll,N,q⟩) (λt L _ Q q=>q) (z9999 (by show 0 + (wor ts [x]).length<=_;omega)) ?_⟩
  have nl:=eZm (ts:=ts) (x:=x);have en:([]++((wor ts [x]).filter λt=>!hasS t (srT (lk ts x))).map tupS)++(srT (lk ts x)).map tupS=(nxt ts x).map tupS:=by unfold nxt;rw[bD,bS]
  refine⟨_,rfl,_,_,rfl,rfl,z9999 ?_,.inr (.inr ⟨nxt ts x,?_,_,rfl,?_⟩)⟩
  ·have:=congrArg e8 en
   rw[av] at this;rw[this,aj];omega
  ·rw[en];rfl
  refine⟨srT (nxt ts x),rfl,by omega,by rw[(aQy _).length_eq];omega,aXd (dQ7 Y.nodup O),dZy he,by omega,λb hb=>?_⟩
  have b15:b.length<=32768:=aZw hb (k:=15) (by omega)
  refine⟨_,rfl,big _ ?_,aQa ?_⟩
  ·rw[bD,aj,aj]
   have:=cU (λr=>!hitB r (srT (lk ts x))) a
   omega
  ·have eo:D.tup (([]++(a.filter λr=>!hitB r (srT (lk ts x))).map λr=>tupS (x::r))++b.map tupS)=D.tup (((a.filter λr=>!hitB r (lk ts x)).map (λr=>x::r)++b).map tupS):=by
    rw[bD,bS,bd]
    have:(a.filter λr=>!hitB r (srT (lk ts x)))=a.filter λr=>!hitB r (lk ts x):=gf λr _=>by rw[dZz]
    rw[this];rfl
   rw[eo];exact q _ (dZw lne hsm eZn (λh=>(dQ8 h).2 rfl) Z hb)
theorem bXy (T:Tx K mg "least_rows" s_least_rows) (B:Bs mg) (d_without_row:Df P w K mg base 2 "without_row" ["sets", "row"] (spU K aZ8)) (d_link_of:Df P w K mg base 2 "link_of" ["sets", "row"] (spU K aX8)) (d_hits:Df P w K mg base 2 "hits" ["row", "sets"] (spU K bZu)) (d_has_some_set:Df P w K mg base 2 "has_some_set" ["row", "sets"] (spU K aQu)):∀ n:Nat,Df P w K mg base (2 + n) "least_rows" ["sets"] (spU K (aJk n))
 | 0=>T.df (λF=>F.binds λ_ _ _ _ _ _=>us1 λ_=>rfl) λF=>F.ok sc_least_rows (λj H Q E ⟨_,_,_,_,_,_,⟨_,_,h,_⟩,_⟩=>absurd h (Nat.not_lt_zero _)) λq A outer s H j Q D z ⟨_,_,_,_,_,_,⟨_,_,h,_⟩,_⟩=>absurd h (Nat.not_lt_zero _)
 | n + 1=>cZt T B (d_without_row.mono (Nat.le_add_right _ _)) (d_link_of.mono (Nat.le_add_right _ _)) (d_hits.mono (Nat.le_add_right _ _)) (d_has_some_set.mono (Nat.le_add_right _ _)) (bXy T B d_without_row d_link_of d_hits d_has_some_set n)
theorem bZv (T:Tx K mg "least_rows" s_least_rows) (B:Bs mg) (d_without_row:Df P w K mg base 2 "without_row" ["sets", "row"] (spU K aZ8)) (d_link_of:Df P w K mg base 2 "link_of" ["sets", "row"] (spU K aX8)) (d_hits:Df P w K mg base 2 "hits" ["row", "sets"] (spU K bZu)) (d_has_some_set:Df P w K mg base 2 "has_some_set" ["row", "sets"] (spU K aQu)):Df P w K mg base 19 "least_rows" ["sets"] (spU K aZ4):=by
 exact bXy T B d_without_row d_link_of d_hits d_has_some_set 17
end
abbrev s_each_two_meet:Stmt:=top 10
theorem sc_each_two_meet:FnScope ["sets"] ["sets"] (aQ4 s_each_two_meet):=fsc
def aZb:SpD:=λds S Q=>∃ (ts:List (List Str)) (b:Bool),ds=[.tup (ts.map tupS)]/\ts.length<=20/\(∀ t∈ts,t.length<=99)/\(b=true↔etm ts)/\Q (.bl b) S
section
variable {P:aC} {w:aO} {K:ap} {mg:Str->Option ad} {base:a9} {pt cc:Addr}
theorem aJd (T:Tx K mg "each_two_meet" s_each_two_meet) (B:Bs mg) (d_meets:Df P w K mg base 1 "meets" ["one", "row"] (spU K aJj)):Df P w K mg base 2 "each_two_meet" ["sets"] (spU K aZb):=by
 refine aZf T sc_each_two_meet (λF=>F.binds λ_ _ _ _ _ _=>us1 λ_=>rfl) ?_ λf cdv A outer s H E z=>⟨_,(aQ6 (aQf (dZb rfl B.all (aQ0 (aQt (N':=["at", "one", "other", "sets"]) (oc:=none) (b:=false) [0,1,2] [2] rfl sc_each_two_meet.nd (λ_ _ _=>cXb _ _ _ _ _ _ _ _ _ _ _ _) (.own (.own (.own (.cap (i:=0) rfl (by decide +kernel) .nil)))) (aQj rfl) (fQ8 rfl B.enumerate (aQ0 (dv 0) aQ1)) (cJc (i:=0) (j:=1)) (λ_ _ _ _ _=>dXa rfl (aXg (aQb (i:=0) (nd_ ["at", "one", "other", "sets"]) rfl (bp rfl) (.inr rfl)) (aXg (aQb (i:=1) (nd_ ["at", "one", "other", "sets"]) rfl (bp rfl) (.inr rfl)) bJ3))) (λ_ _ _ _ _=>aQn) (dZe (cg_name (i:=2)) aQi) (λ_ _ _ _ _ _=>dQv (m:=λacc=>emitOf _ acc _) rfl rfl rfl (λ_=>cXc _ _ _ _ _ _ _ _ _ _ _ _) (by exact PID.o (aZp (e_sl (b:=false) (dv 3) bJl (bQ2 (dv 0))))) (aQb (i:=2) (nd_ ["at", "one", "other", "sets"]) rfl (bp rfl) (.inr rfl)) (aQn) (aQh rfl (by exact PD.o (aQ3 d_meets z rfl (aQ0 (dv 1) (aQ0 (dv 2) aQ1))))) (λ_=>rfl) (λ_=>rfl) (λ_=>rfl) (λ_=>rfl) (λ_=>rfl))) aQ1)))),?_⟩
 ·rintro ds S Q ⟨ts,b,rfl,_⟩;rfl
 ·rintro ds S Q ⟨ts,b,rfl,hl,z,R,q⟩;have e:b=(etB ts ts.length).all id:=by rw[eU,R,eZo]
  rw[e] at q;refine aJi (λi acc S'=>S'=S/\acc=(etB ts i).map D.bl) ⟨rfl,rfl⟩ ?_ ?_
  ·rintro i x acc S' N L ⟨rfl,rfl⟩ U;obtain⟨y,G,rfl⟩:=bQ5 _ 0 i x L;rw[ba,dh] at G;obtain⟨t,J,rfl⟩:=G;have hi:i < ts.length:=(aG.mp J).1;have Y:ts.getD i []=t:=by rw[ah,J];rfl
   have Z:cutD (ts.map tupS) none (some ((0:Int) + (i:Nat)))=(ts.take i).map tupS:=by rw[Int.zero_add];exact dX1 ts i
   have el:=dQ9 ts hl i;refine⟨trivial,rfl,rfl,_,rfl,(ts.take i).map tupS,Z,aQp (f:=λo=>D.bl (mts t o)) (λo O Q q=>⟨Str,inferInstance,strE,t,o,tupS t,tupS o,rfl,by decide,.inl rfl,.inl rfl,by have:=z o (b5 O);omega,q⟩) (z9999 ?_) (U _ _ ⟨rfl,?_⟩)⟩
   ·rw[aj,aQ];omega
   ·rw[cZ3,bS,bd,Y];rfl
  ·rintro acc S' ⟨rfl,rfl⟩;rw[bQ4,aj];exact⟨trivial,etB ts ts.length,rfl,aQa q⟩
end
abbrev s_is_full:Stmt:=top 11
theorem sc_is_full:FnScope ["sets"] ["sets"] (aQ4 s_is_full):=fsc
def bZ2:SpD:=λds S Q=>∃ (ts:List (List Str)) (b:Bool),ds=[.tup (ts.map tupS)]/\ts.length<=20/\SrtT ts/\(∀ t∈ts,Srt t/\t.length<=12)/\(nms ts).length<=15/\(b=true↔ts≠[]/\[]∉ts/\etm ts/\∀ r,Mn ts r->∃ t∈ts,∀ x∈t,x∈r)/\Q (.bl b) S
section
variable {P:aC} {w:aO} {K:ap} {mg:Str->Option ad} {base:a9} {pt cc:Addr}
theorem cZu (T:Tx K mg "is_full" s_is_full) (B:Bs mg) (d_each_two_meet:Df P w K mg base 19 "each_two_meet" ["sets"] (spU K aZb)) (d_has_some_set:Df P w K mg base 19 "has_some_set" ["row", "sets"] (spU K aQu)) (d_least_rows:Df P w K mg base 19 "least_rows" ["sets"] (spU K aZ4)):Df P w K mg base 20 "is_full" ["sets"] (spU K bZ2):=by
 refine aZf T sc_is_full (λF=>F.binds λ_ _ _ _ _ _=>us1 λ_=>rfl) ?_ λf cdv A outer s H E j=>⟨_,(aQ2 (aJa (PWD.pt (cJ8 (aJ6 (aXk (dv 0))) (cJ8 (eJw j (bQ1 aQ1) (dv 0)) (cQm (aJ6 (aXk (aQ3 d_each_two_meet j rfl (aQ0 (dv 0) aQ1)))))))) (aQ6 (aQf e_bl)) aZa)
  (aQ6 (aQf (dZb rfl B.all (aQ0 (aQt (N':=["row", "sets"]) (oc:=none) (b:=false) [0] [] rfl sc_is_full.nd (λ_ _ _=>aQ8 _ _ _ _ _ _ _ _ _) (.own (.cap (i:=0) rfl (by decide +kernel) .nil)) (aQj rfl) (aZp (aQ3 d_least_rows j rfl (aQ0 (dv 0) aQ1))) (cg_name (i:=0)) (λ_ _ _ _ _=>aQb (i:=0) (nd_ ["row", "sets"]) rfl (bp rfl) (.inr rfl)) (λ_ _ _ _ _=>aQn) aQi (λ_ _ _ _ _ _=>aQh rfl (by exact PD.o (aQ3 d_has_some_set j rfl (aQ0 (dv 0) (aQ0 (dv 1) aQ1)))))) aQ1))))),?_⟩
 ·rintro ds S Q ⟨ts,b,rfl,_⟩;rfl
 ·rintro ds S Q ⟨ts,b,rfl,hl,Z,he,G,U,q⟩;have big:∀ n:Nat,n<=100000->n<=sizeLine:=λn h=>by rw[be];omega
  have no:¬ (ts≠[]/\[]∉ts/\etm ts/\∀ r,Mn ts r->∃ t∈ts,∀ x∈t,x∈r)->rtD Q (.bl false) S:=λh=>by
   have:b=false:=by cases b with | false=>rfl | true=>exact absurd (U.mp rfl) h
   rw[this] at q;exact aQa q
  refine ite2 (λc=>?_) λc=>?_
  ·exact no λh=>h.1 (by cases ts with | nil=>rfl | cons _ _=>cases c)
  have J:ts≠[]:=by rintro rfl;exact c rfl
  refine⟨z9999 (by decide),_,rfl,aZv ts,okT [] ts,_,rfl,ite2 (λR=>?_) λR=>?_⟩
  ·exact no λh=>h.2.1 (mem_tups.mp (of_decide_eq_true R))
  have O:[]∉ts:=λh=>R (decide_eq_true (mem_tups.mpr h))
  classical
  refine⟨ts,decide (etm ts),rfl,hl,λt L=>by have:=(he t L).2;omega,decide_eq_true_iff,?_⟩
  refine ite2 (λc2=>?_) λc2=>?_
  ·exact no λh=>by rw[decide_eq_true h.2.2.1] at c2;cases c2
  have het:etm ts:=aJ λz=>c2 (by rw[decide_eq_false z];rfl)
  refine⟨ts,rfl,by omega,hl,Z,he,G,λout N=>?_⟩
  have Y:out.length<=32768:=aZw N (k:=15) G;have eb:(out.map λr=>hasS r ts).all id=b:=by
   rw[eU,U,ef,br];constructor
   ·intro h;exact⟨J,O,het,λr m=>hasS_iff.mp (h r ((N.all r).mpr m))⟩
   ·exact λh r j=>hasS_iff.mpr (h.2.2.2 r ((N.all r).mp j))
  rw[<- eb] at q;exact⟨_,rfl,aQp (f:=λr=>D.bl (hasS r ts)) (λr j Q q=>⟨ts,r,rfl,hl,λt L=>by have:=(he t L).2;omega,q⟩) (big _ (by show 0 + out.length<=_;omega)) ⟨out.map λr=>hasS r ts,by show _=_;rw[bd];rfl,aQa q⟩⟩
end
abbrev s_law_some:Stmt:=top 24
theorem sc_law_some:FnScope ["pile", "most", "names", "sizes"] ["pile", "most"] (aQ4 s_law_some):=fsc
def aXm:SpD:=λds S Q=>∃ (a:Addr) (most:Nat),ds=[.ref a,.int most]/\Pile S a/\most<=14/\∀ ts S',CollB most ts->(nms ts).length<=6->Off a S S'->Pile S' a->Q (.tup (ts.map tupS)) S'
section
variable {P:aC} {w:aO} {K:ap} {mg:Str->Option ad} {base:a9} {pt cc:Addr}
theorem bJz (T:Tx K mg "_law_some" s_law_some) (B:Bs mg) (d_law_next:Df P w K mg base 3 "_law_next" ["pile", "most"] (spU K aQq)) (d_law_names:Df P w K mg base 3 "_law_names" ["pile", "many"] (spU K aJ2)) (d_law_collection:Df P w K mg base 3 "_law_collection" ["pile", "names", "count", "sizes"] (spU K aZ7)):Df P w K mg base 4 "_law_some" ["pile", "most"] (spU K aXm):=by
 refine aZf T sc_law_some (λF=>F.binds λ_ _ _ _ _ _=>us2 λ_ _=>rfl) ?_ λf cdv A outer s H E U=>⟨_,(aQ2 (aQe (i:=2) sc_law_some.nd rfl (bp rfl) (aQ3 d_law_names U rfl (aQ0 (dv 0) (aQ0 (aQz (k:=false) aQ5 (aQ3 d_law_next U rfl (aQ0 (dv 0) (aQ0 aQ5 aQ1)))) aQ1))))
  (aQ2 (aQe (i:=3) sc_law_some.nd rfl (bp rfl) (e_ix (aZu (b:=false) (aQ0 (aZu (b:=false) (aQ0 aQ5 (aQ0 aQ5 (aQ0 aQ5 aQ1)))) (aQ0 (aZu (b:=false) (aQ0 aQ5 aQ1)) (aQ0 (aZu (b:=false) (aQ0 aQ5 (aQ0 aQ5 aQ1))) (aQ0 (aZu (b:=false) (aQ0 aQ5 (aQ0 aQ5 (aQ0 aQ5 (aQ0 aQ5 aQ1))))) aQ1))))) (aQ3 d_law_next U rfl (aQ0 (dv 0) (aQ0 aQ5 aQ1)))))
  (aQ6 (aQf (aQ3 d_law_collection U rfl (aQ0 (dv 0) (aQ0 (dv 2) (aQ0 (aQ3 d_law_next U rfl (aQ0 (dv 0) (aQ0 (aQz (k:=false) (dv 1) aQ5) aQ1))) (aQ0 (dv 3) aQ1))))))))),?_⟩
 ·rintro ds S Q ⟨a,most,rfl,_⟩;rfl
 ·rintro ds S Q ⟨a,most,rfl,dk,hm,q⟩;refine⟨a,5,rfl,dk,by decide,by decide,λr1 S1 r10 r11 R dk1=>?_⟩
  obtain⟨k,hk⟩:∃ k:Nat,2 + r1=(k:Int):=⟨(2 + r1).toNat,by omega⟩
  refine⟨a,k,congrArg (λz:Int=>[D.ref a,.int z]) hk,dk1,by omega,λnames S2 nd pw hnl ne _ O dk2=>?_⟩
  have z:∀ n:Nat,n<=99->n<=sizeLine:=λn h=>z9999 (by omega)
  refine⟨z _ (by show 3<=99;decide),z _ (by show 1<=99;decide),z _ (by show 2<=99;decide),z _ (by show 4<=99;decide),z _ (by show 4<=99;decide),?_⟩
  refine⟨a,4,rfl,dk2,by decide,by decide,λG S4 r30 r31 N dk4=>?_⟩
  obtain⟨j,hsz,sne,s99,s6⟩:∃ j:List Nat,atI [D.lst [.int 1,.int 2,.int 3],.lst [.int 2],.lst [.int 2,.int 3],.lst [.int 0,.int 1,.int 2,.int 3]] G=some (.lst (j.map λk=>.int (k:Nat)))/\j≠[]/\j.length<=99/\∀ k∈j,k<=6:=by
   have h:G=0\/G=1\/G=2\/G=3:=by omega
   rcases h with rfl | rfl | rfl | rfl
   ·exact⟨[1,2,3],rfl,by simp,by simp,by decide⟩
   ·exact⟨[2],rfl,by simp,by simp,by decide⟩
   ·exact⟨[2,3],rfl,by simp,by simp,by decide⟩
   ·exact⟨[0,1,2,3],rfl,by simp,by simp,by decide⟩
  refine⟨_,_,rfl,hsz,?_⟩;refine⟨a,((most:Int) + 1),rfl,dk4,by omega,by omega,λr4 S5 r40 r41 L dk5=>?_⟩
  obtain⟨c,rfl⟩:∃ c:Nat,r4=c:=⟨r4.toNat,by omega⟩
  refine⟨a,names,c,j,6,rfl,dk5,nd,by omega,by omega,sne,s99,s6,by decide,λts S7 Z Y ht tl J dk7=>aQa (q ts S7 (CollB.of (by omega) ne Z Y ht (by omega)) ?_ ?_ dk7)⟩
  ·exact Nat.le_trans (bZt λt h x hx=>(ht t h).2.2.1 x hx) (by omega)
  ·exact R.trans (O.trans (N.trans (L.trans J)))
end
end Toy
namespace L2
open PySem PySem.Spec PyProof.Rows
section
variable {X:Cx}
def fZh (w:aO) (K:Fg):List V->Hp->VK->Prop:=λxs H Q=>∃ x ds,xs=[x]/\dT K (dT K dS) H x ds/\ds.length + 1<=300/\∀ p ms H',Same H H'->ms.Nodup->(∀ k,k∈ms↔k∈ds)->dSt w K H' (.ref p) ms->Q (.ref p) H'
theorem cQ0 {K:Fg} {w:aO} (hu:X.A.units + 8 < cx) (hK:X.K=K:=by rfl) (hw:X.w=w:=by rfl) (hc:X.calm=true:=by rfl):CallR X (.type "set") (fZh w K):=by
 subst hK hw;intro pins s σ H xs us Q I r h;obtain⟨x,ds,rfl,⟨a,ys,rfl,R,p⟩,hn,q⟩:=h;obtain⟨u,rfl,rx⟩:=aX9 r;cases rx;obtain⟨its,L,pl,_⟩:=I.tuple R;refine ST.call_setT (ST.restr (ST.tupKd X.prog X.w) λk v=>∃ x,RelV x v/\dT X.K dS H x k) (I.ok.hd hc) hu pl (dXn I p L) (by rw[am,<- L.length,p.length];exact hn) λh' O ms M _ U=>?_
 obtain⟨es,G,t,B,j,N⟩:=M.ex;obtain⟨ps,h1,h2⟩:=eJk N;have D:H s.heap.objs.size=none:=I.hok.fresh (Nat.le_refl _);have J:Same H (upd H s.heap.objs.size (stO s.heap.objs.size es G t)):=aQw D;refine⟨.ref s.heap.objs.size,_,I.laid (t':=O) (o:=stO s.heap.objs.size es G t) (λb o e=>U b o (az e) e) (Nat.le_refl _) ?_,rfl,q _ _ _ J M.nd M.mem ⟨_,es,G,t,ps,rfl,aQg,(ST.tupKd X.prog X.w).fits B.1,j,λz=>?_,L2.Paired.imp (λ_ _ z=>⟨z.1,Mo.mo J z.2⟩) h1,h2⟩⟩
 ·refine⟨(ST.tupKd X.prog X.w).obj B.1,⟨_,(ST.tupKd X.prog X.w).obj B.1⟩,λg1 g2 g k=>k _ g⟩
 ·exact(ST.restr (ST.tupKd X.prog X.w) λk v=>∃ x,RelV x v/\dT X.K dS H x k).few B N M.nd z
end
section
variable {X:Cx} {K:Fg} {pos:Pos} {k:Nat} {F:Am} {S:Sto} {H:Hp}
def dX9 (b:Bool) (te:ED):ED:=fun Γ S Q=>te Γ S λd S1=>∃ ts:List (List Str),d=.tup (ts.map tupS)/\ts.length < 300/\∀ out:List (List Str),out.Nodup->(∀ t,t∈out↔t∈ts)->out.Pairwise (λa b=>HT.lexS a b=true)->newL b (out.map tupS) S1 Q
theorem bXz {b:Bool} {e:Expr} {te:ED} {p p' pos':Pos} (hr:Room k X.A) (hg:Gl X "sorted") (hm:X.mg "sorted" = none) (hg':Gl X "set") (hm':X.mg "set" = none) (he:PD K X e te) (hK:X.K=K:=by rfl) (hc:X.calm=true:=by rfl)
  (h1:ay [e] X.env=(false,eval e X.env)::ay [] X.env:=by rfl) (h2:ay [Expr.Call (.Name "set" p') [e] [] pos'] X.env=(false,eval (Expr.Call (.Name "set" p') [e] [] pos') X.env)::ay [] X.env:=by rfl) (h3:(cD pos (ay [] X.env)).any (·.1)=false:=by rfl) (h4:(cD pos' (ay [] X.env)).any (·.1)=false:=by rfl) :
  PD K X (.Call (.Name "sorted" p) [.Call (.Name "set" p') [e] [] pos'] [] pos) (dX9 b te) :=
 .of (bZ3 (bQi (lt64 hr) hK rfl hc) hg hm aJr (aJl (aJm (cQ0 (lt64 hr) hK rfl hc) hg' hm' dXd (aJl he.o bX0 h1) (by decide) (by decide) h1 h4) bX0 h2) (by decide) (by decide) h2 h3) fun σ H Q J=>J.el λF S Γ QD r g q c =>
 ⟨F,S,Γ,_,r,g,q,λv d H1 B N O v1 G=>by
  obtain⟨ts,hl,z,R⟩:=G;subst hl;obtain⟨a,us,rfl,sq,Y⟩:=tup.st v1;refine⟨_,ts,rfl,⟨a,us,rfl,sq,bJo Y⟩,by omega,λp ms H2 s2 nd mem st=>⟨_,ms,rfl,st,nd,?_,λl ys out j pm U pp=>?_⟩⟩
  ·exact Nat.lt_of_le_of_lt (cXr nd mem).1 z
  ·have D:Rp K F B H2:=O.same s2;have L:Ext B H1 B H2:=Ext.same s2;exact Cn.new (Cn.shift c (N.trans L)) D j (cQv D pp) (R out (pm.nodup_iff.mpr nd) (λt=>(pm.mem_iff).trans (mem t)) U)⟩
end
end L2
namespace Toy
open PySem L2
abbrev s_law_two_right:Stmt:=top 25
theorem sc_law_two_right:FnScope ["pile", "first", "second", "both", "due", "row"] ["pile"] (aQ4 s_law_two_right):=fsc
def aJ8:SpD:=λds S Q=>∃ (a:Addr),ds=[.ref a]/\Pile S a/\∀ S',Off a S S'->Pile S' a->Q (.bl true) S'
section
variable {P:aC} {w:aO} {K:ap} {mg:Str->Option ad} {base:a9} {pt cc:Addr}
theorem aJe (T:Tx K mg "_law_two_right" s_law_two_right) (B:Bs mg) (d_law_some:Df P w K mg base 19 "_law_some" ["pile", "most"] (spU K aXm)) (d_law_named:Df P w K mg base 19 "_law_named" ["pile", "sets", "ahead"] (spU K aX4)) (d_law_renamed:Df P w K mg base 19 "_law_renamed" ["sets", "turned"] (spU K aZn)) (d_least_rows:Df P w K mg base 19 "least_rows" ["sets"] (spU K aZ4)):Df P w K mg base 20 "_law_two_right" ["pile"] (spU K aJ8):=by
 refine aZf T sc_law_two_right (λF=>F.binds λ_ _ _ _ _ _=>us1 λ_=>rfl) ?_ λf cdv A outer s H E O=>⟨_,(aQ2 (bQ3 (aQt (N':=["k", "pile"]) (oc:=none) (b:=false) [0] [] rfl sc_law_two_right.nd (λ_ _ _=>aQ8 _ _ _ _ _ _ _ _ _) (.own (.cap (i:=0) rfl (by decide +kernel) .nil)) (aQj rfl) (aZq rfl B.range (aQ0 aQ5 aQ1)) (cg_name (i:=0)) (λ_ _ _ _ _=>aQb (i:=0) (nd_ ["k", "pile"]) rfl (bp rfl) (.inr rfl)) (λ_ _ _ _ _=>aQn) aQi (λ_ _ _ _ _ _=>aQh rfl (by exact PD.o (aQ3 d_law_some O rfl (aQ0 (dv 1) (aQ0 aQ5 aQ1)))))) (fQu rfl (cQo (aXu (i:=1) sc_law_two_right.nd rfl (bp rfl)) (cQo (aXu (i:=2) sc_law_two_right.nd rfl (bp rfl)) eQq))))
  (aQ2 (aQe (i:=1) sc_law_two_right.nd rfl (bp rfl) (aQ3 d_law_renamed O rfl (aQ0 (dv 1) (aQ0 (aQ3 d_law_named O rfl (aQ0 (dv 0) (aQ0 (dv 1) (aQ0 aZm aQ1)))) aQ1))))
  (aQ2 (aQe (i:=2) sc_law_two_right.nd rfl (bp rfl) (aQ3 d_law_renamed O rfl (aQ0 (dv 2) (aQ0 (aQ3 d_law_named O rfl (aQ0 (dv 0) (aQ0 (dv 2) (aQ0 aZm aQ1)))) aQ1))))
  (aQ2 (aQe (i:=3) sc_law_two_right.nd rfl (bp rfl) (aQr rfl B.tuple (aQ0 (bXz (b:=false) O rfl B.sorted rfl B.set (aQz (k:=false) (dv 1) (dv 2))) aQ1)))
  (aQ2 (aQe (i:=4) sc_law_two_right.nd rfl (bp rfl) (aZu (b:=true) aQ1))
  (aQ2 (cQp gL rfl (aZp (aQ3 d_least_rows O rfl (aQ0 (dv 1) aQ1))) (aXu (i:=5) sc_law_two_right.nd rfl (gK rfl)) (aQ6 (bJm (dZq (dv 4) (aQ0 (aQt (N':=["other", "row"]) (oc:=none) (b:=true) [0] [] rfl sc_law_two_right.nd (λ_ _ _=>aQ8 _ _ _ _ _ _ _ _ _) (.own (.cap (i:=5) rfl (by decide +kernel) .nil)) (aQj rfl) (aZp (aQ3 d_least_rows O rfl (aQ0 (dv 2) aQ1))) (cg_name (i:=0)) (λ_ _ _ _ _=>aQb (i:=0) (nd_ ["other", "row"]) rfl (bp rfl) (.inr rfl)) (λ_ _ _ _ _=>aQn) aQi (λ_ _ _ _ _ _=>aQh rfl (by exact PD.o (aQr rfl B.tuple (aQ0 (aQv (b:=false) O rfl B.sorted (aQ0 (aQz (k:=false) (dv 1) (dv 0)) aQ1)) aQ1))))) aQ1)))))
  (aQ6 (aQf (e_eq O (aQ3 d_least_rows O rfl (aQ0 (dv 3) aQ1)) (aQr rfl B.tuple (aQ0 (aQv (b:=false) O rfl B.sorted (aQ0 (dv 4) aQ1)) aQ1))))))))))),?_⟩
 ·rintro ds S Q ⟨a,rfl,_⟩;rfl
 ·rintro ds S Q ⟨a,rfl,dk,q⟩;refine⟨⟨by decide,by decide⟩,aJi (λi acc S'=>∃ L:List (List (List Str)),acc=L.map (λt=>D.tup (t.map tupS))/\L.length=i/\(∀ t∈L,CollB 7 t/\(nms t).length<=6)/\Off a S S'/\Pile S' a) ⟨[],rfl,rfl,by simp,λ_ _=>rfl,dk⟩ ?_ ?_⟩
  ·rintro i x acc S' N R ⟨L,rfl,ll,hL,off,dk1⟩ hN;obtain⟨hi,rfl⟩:=cJv R;have hi2:i < 2:=hi;refine⟨trivial,a,7,rfl,dk1,by decide,λts S2 hC n6 U dk2=>⟨z9999 (by rw[aj];omega),hN _ _ ⟨L++[ts],by rw[bS];rfl,by rw[av,ll];rfl,λt j=>?_,off.trans U,dk2⟩⟩⟩
   rcases ar.mp j with h | h
   ·exact hL t h
   ·rw[aE.mp h];exact⟨hC,n6⟩
  rintro acc S1 ⟨L,rfl,ll,hL,off1,dk1⟩;obtain⟨A,B,rfl⟩:∃ A B,L=[A,B]:=by
   match L,ll with
   | [A,B],_=>exact⟨A,B,rfl⟩
  obtain⟨cA,nA⟩:=hL A (by simp)
  obtain⟨cB,nB⟩:=hL B (by simp)
  refine⟨trivial,rfl,rfl,?_⟩;refine⟨a,A,a7 "a",rfl,dk1,by have:=cA.len;omega,λt j=>by have:=(cA.each t j).2;omega,by omega,by decide,λp ms S2 hp pa ml mn mc hp2 U dk2=>?_⟩
  refine⟨p,nms A,ms,A,rfl,hp2,ml,by have:=cA.len;omega,λt j=>⟨by have:=(cA.each t j).2;omega,λn hn=>mem_nms.mpr ⟨t,j,hn⟩⟩,?_⟩
  refine⟨a,B,a7 "b",rfl,dk2,by have:=cB.len;omega,λt j=>by have:=(cB.each t j).2;omega,by omega,by decide,λp2 ms2 S3 hp' pa' ml' mn' mc' hp2' off3 dk3=>?_⟩
  refine⟨p2,nms B,ms2,B,rfl,hp2',ml',by have:=cB.len;omega,λt j=>⟨by have:=(cB.each t j).2;omega,λn hn=>mem_nms.mpr ⟨t,j,hn⟩⟩,?_⟩
  have kp:∀ b o,S b=some o->b≠a->S3 b=some o:=λb o e n=>by
   have e1:=(off1 b n).trans e;have e2:=(U b n (by rintro rfl;rw[hp] at e1;cases e1)).trans e1
   exact(off3 b n (by rintro rfl;rw[hp'] at e2;cases e2)).trans e2
  obtain⟨sA,eA,lA,mA⟩:=dQf (us:=nms A) ml (aZ2 A).nodup mn cA.srt (λt j=>cA.each t j) (λt j n hn=>mem_nms.mpr ⟨t,j,hn⟩);obtain⟨sB,eB,lB,mB⟩:=dQf (us:=nms B) ml' (aZ2 B).nodup mn' cB.srt (λt j=>cB.each t j) (λt j n hn=>mem_nms.mpr ⟨t,j,hn⟩);have lA7:=cA.len;have lB7:=cB.len;generalize srT (A.map (cl (nms A) ms))=A' at sA eA lA mA;generalize srT (B.map (cl (nms B) ms2))=B' at sB eB lB mB;show dSeq _ _ _ [some (.ref a),some (.tup (A'.map tupS)),some (.tup (B'.map tupS)),none,none,none] S3;have nA':(nms A').length<=6:=Nat.le_trans ((aZ2 A').nodup.length_le_of_subset mA) (by omega)
  have nB':(nms B').length<=6:=Nat.le_trans ((aZ2 B').nodup.length_le_of_subset mB) (by omega)
  have dj:∀ x∈nms A',x∉nms B':=λx h1 h2=>by
   obtain⟨c,_,_,e1⟩:=mc x (mA x h1);obtain⟨d,_,_,e2⟩:=mc' x (mB x h2);have e:(a7 "a"++(⟨#[c]⟩:Str)).cps.toList=(a7 "b"++(⟨#[d]⟩:Str)).cps.toList:=congrArg (λz:Str=>z.cps.toList) (e1.symm.trans e2);have e':[97,c]=[98,d]:=e;injection e' with e' _
   cases e'
  refine⟨z9999 (by rw[aj,aj];omega),A'++B',by rw[bS],by rw[av];omega,λout ond mem pw=>⟨_,rfl,z9999 (by decide),λdp hdp=>?_⟩⟩
  have dpa:dp≠a:=dk3.ne hdp;have Y:IsL B' _:=dX5 (aZ2 B') λx R=>R;generalize srT ((bQa (nms B') ((nms B').length + 1)).filter (dX4 B'))=ob at Y;have obl:=aZw Y nB';have obe:∀ r∈ob,r.length<=6:=λr O=>bQb Y O nB';refine⟨A',rfl,by omega,by omega,sA,λt j=>⟨(eA t j).1,by have:=(eA t j).2;omega⟩,by omega,λoa hoa=>⟨_,rfl,?_⟩⟩
  have oal:=aZw hoa nA';have oae:∀ r∈oa,r.length<=6:=λr O=>bQb hoa O nA';have pl:∀ l:List (List Str),(prd l ob).length=l.length * ob.length:=λl=>by
   induction l with
   | nil=>exact(Nat.zero_mul _).symm
   | cons x l ih=>unfold prd at ih ⊢;rw[gc,av,aj,ih,aV,Nat.succ_mul,Nat.add_comm]
  refine bZm (λi Γ S'=>∃ x5:Option D,Γ=[some (.ref a),some (.tup (A'.map tupS)),some (.tup (B'.map tupS)),some (.tup (out.map tupS)),some (.ref dp),x5]/\S' dp=some (.lst ((prd (oa.take i) ob).map tupS))/\(∀ b,b≠dp->S3 b≠none->S' b=S3 b)) ⟨none,rfl,aQ7,λb Z _=>aQ9 Z⟩ ?_ ?_
  ·rintro i x Γ S' N R ⟨x5,rfl,hf,G⟩ hN;rw[ba,dh] at R;obtain⟨r,R,rfl⟩:=R;have hi:=(aG.mp R).1;have r6:=oae r (ak R);refine⟨trivial,⟨_,hf⟩,B',rfl,by omega,by omega,sB,λt j=>⟨(eB t j).1,by have:=(eB t j).2;omega⟩,by omega,λJ hob'=>?_⟩
   have:=hob'.uniq Y
   subst this;refine⟨_,rfl,aQp (enc:=tupS) (f:=λy=>tupS (srS (r++y))) (λy hy Q q=>⟨z9999 (by have:=obe y hy;rw[aj,aj];omega),.inl ⟨r++y,by rw[bS];rfl,_,rfl,q⟩⟩) (z9999 (by show 0 + J.length<=9999;omega)) ?_⟩
   intro p3 hp3;have hne:p3≠dp:=by rintro rfl;rw[hp3] at hf;cases hf
   have e1:prd (oa.take (i + 1)) J=prd (oa.take i) J++J.map λy=>srS (r++y):=by
    unfold prd;rw[dH,R,fy];show _++((J.map λy=>srS (r++y))++[])=_;rw[ci]
   have e2:=pl (oa.take i);refine⟨_,_,(aQ9 (cf hne)).trans hf,aQ7,?_,hN _ _ ⟨_,rfl,?_,λb Z hs=>?_⟩⟩
   ·rw[bD,aj,aj,e2,aQ]
    have:min i oa.length * J.length<=64 * 64:=Nat.mul_le_mul (by omega) (by omega)
    exact z9999 (by omega)
   ·rw[aQ7,bD,e1];show _=some (DO.lst ((prd (oa.take i) J++J.map λy=>srS (r++y)).map tupS));rw[bS,bd];rfl
   ·rw[aQ9 Z,aQ9 (by rintro rfl;rw[G _ Z hs] at hp3;exact hs hp3)]
    exact G b Z hs
  rintro Γ S' ⟨x5,rfl,hf,G⟩;rw[aj,dX] at hf;have hbl:IsL out (srT (prd oa ob)):=eZq (λt=>(mem t).trans ar) dj hoa Y;have ol:out.length<=14:=by
   have:=(ond.length_le_of_subset λt j=>(mem t).mp j)
   rw[av] at this;omega
  have oe:∀ t∈out,Srt t/\t.length<=12:=λt j=>by
   rcases ar.mp ((mem t).mp j) with h | h
   ·exact⟨(eA t h).1,by have:=(eA t h).2;omega⟩
   ·exact⟨(eB t h).1,by have:=(eB t h).2;omega⟩
  have on:(nms out).length<=12:=by
   have:(nms out).length<=(nms A'++nms B').length:=bZt λt j x R=>by
    rcases ar.mp ((mem t).mp j) with h | h
    ·exact ar.mpr (.inl (mem_nms.mpr ⟨t,h,R⟩))
    ·exact ar.mpr (.inr (mem_nms.mpr ⟨t,h,R⟩))
   rw[av] at this;omega
  refine⟨trivial,out,rfl,by omega,by omega,pw,oe,by omega,λlo hlo=>?_⟩
  rw[hlo.uniq hbl];refine .inr (.inr ⟨prd oa ob,.inl hf,_,rfl,flE.ok 9 _ _ (by decide),?_⟩)
  rw[decide_eq_true rfl];refine aXx (S':=λb=>if b=a then S' b else S b) (λb o e=>?_) (q _ (λb Z=>if_neg Z) ?_)
  ·have e:(if b=a then S' b else S b)=some o:=e
   by_cases Z:b=a
   ·rw[if_pos Z] at e;exact e
   ·rw[if_neg Z] at e;have e3:=kp b o e Z;rw[G b (by rintro rfl;rw[hdp] at e3;cases e3) (by rw[e3];exact λz=>by cases z)]
    exact e3
  ·refine dk3.eq ((if_pos rfl).trans (G a (cf dpa) ?_));obtain⟨cs,i,r,sd,c,hSa,_⟩:=dk3;rw[hSa];exact λz=>by cases z
end
abbrev s_law_name_more_right:Stmt:=top 26
theorem sc_law_name_more_right:FnScope ["sets", "some", "longer"] ["sets"] (aQ4 s_law_name_more_right):=fsc
def aXn:SpD:=λds S Q=>∃ (ts:List (List Str)),ds=[.tup (ts.map tupS)]/\CollB 14 ts/\zz8∉nms ts/\Q (.bl true) S
section
variable {P:aC} {w:aO} {K:ap} {mg:Str->Option ad} {base:a9} {pt cc:Addr}
theorem aZy (T:Tx K mg "_law_name_more_right" s_law_name_more_right) (B:Bs mg) (d_law_held:Df P w K mg base 19 "_law_held" ["sets"] (spU K aXe)) (d_least_rows:Df P w K mg base 19 "least_rows" ["sets"] (spU K aZ4)):Df P w K mg base 20 "_law_name_more_right" ["sets"] (spU K aXn):=by
 refine aZf T sc_law_name_more_right (λF=>F.binds λ_ _ _ _ _ _=>us1 λ_=>rfl) ?_ λf cdv A outer s H E J=>⟨_,(aQ2 (aQe (i:=1) sc_law_name_more_right.nd rfl (bp rfl) (aQr rfl B.tuple (aQ0 (aQt (N':=["one"]) (oc:=none) (b:=false) [0] [] rfl sc_law_name_more_right.nd (λ_ _ _=>aQ8 _ _ _ _ _ _ _ _ _) (.own .nil) (aQj rfl) (aZp (dv 0)) (cg_name (i:=0)) (λ_ _ _ _ _=>aQb (i:=0) (nd_ ["one"]) rfl (bp rfl) (.inr rfl)) (λ_ _ _ _ _=>aXv (by exact(eQm J (bXh rfl B.len (aQ0 (dv 0) aQ1)) aQ5))) aQi (λ_ _ _ _ _ _=>aQh rfl (by exact PD.o (dv 0)))) aQ1)))
  (aQ2 (aQe (i:=2) sc_law_name_more_right.nd rfl (bp rfl) (aQr rfl B.tuple (aQ0 (aQv (b:=false) J rfl B.sorted (aQ0 (aQt (N':=["one"]) (oc:=none) (b:=false) [0] [] rfl sc_law_name_more_right.nd (λ_ _ _=>aQ8 _ _ _ _ _ _ _ _ _) (.own .nil) (aQj rfl) (aZp (dv 1)) (cg_name (i:=0)) (λ_ _ _ _ _=>aQb (i:=0) (nd_ ["one"]) rfl (bp rfl) (.inr rfl)) (λ_ _ _ _ _=>aQn) aQi (λ_ _ _ _ _ _=>aQh rfl (by exact PD.o (aQr rfl B.tuple (aQ0 (aQv (b:=false) J rfl B.sorted (aQ0 (aQz (k:=false) (dv 0) (bQ1 (aQ0 aZm aQ1))) aQ1)) aQ1))))) aQ1)) aQ1)))
  (aQ2 (aJa (PWD.pt (cJ8 (eJv J (dv 1) (bQ1 aQ1)) (cQm (eJy J (bXh rfl B.len (aQ0 (aQ3 d_law_held J rfl (aQ0 (dv 1) aQ1)) aQ1)) aQ5)))) (aQ6 (aQf e_bl)) aZa)
  (aQ6 (aQf (e_eq J (aQ3 d_least_rows J rfl (aQ0 (dv 2) aQ1)) (aQr rfl B.tuple (aQ0 (aQv (b:=false) J rfl B.sorted (aQ0 (aQz (k:=false) (aQ3 d_least_rows J rfl (aQ0 (dv 1) aQ1)) (bQ1 (aQ0 (bQ1 (aQ0 aZm aQ1)) aQ1))) aQ1)) aQ1)))))))),?_⟩
 ·rintro ds S Q ⟨ts,rfl,_⟩;rfl
 ·rintro ds S Q ⟨ts,rfl,hC,hz,q⟩;have l14:=hC.len;have hs:=hC.srt;have he:=hC.each;have n12:=hC.nms;have hlt:∀ t:List Str,decide ((((t.map D.str).length:Nat):Int) < 6)=decide (t.length < 6):=λt=>decide_eq_decide.mpr (by rw[aj];omega)
  refine⟨_,rfl,aZr (p:=λt=>decide (t.length < 6)) (f:=tupS) (λt j Q q=>?_) (λt j _ Q q=>q) (z9999 (by show 0 + ts.length<=_;omega)) ⟨_,rfl,?_⟩⟩
  ·have q:=q;rw[<- hlt t] at q;exact⟨_,rfl,_,rfl,q⟩
  rw[bD];have G:(ts.filter λt=>decide (t.length < 6)).Sublist ts:=List.filter_sublist;have h5:∀ t∈ts.filter (λt=>decide (t.length < 6)),t.length<=5:=λt j=>by have:=of_decide_eq_true (bC.mp j).2;omega
  generalize ts.filter (λt=>decide (t.length < 6))=us at G h5;have ul:us.length<=14:=Nat.le_trans G.length_le l14;have su:SrtT us:=jl G hs;have ue:∀ t∈us,Srt t:=λt j=>(he t (G.subset j)).1;have Y:zz8∉nms us:=λh=>by obtain⟨t,j,O⟩:=mem_nms.mp h;exact hz (mem_nms.mpr ⟨t,G.subset j,O⟩)
  have un:(nms us).length<=12:=Nat.le_trans (bZt (N:=nms ts) λt j x O=>mem_nms.mpr ⟨t,G.subset j,O⟩) n12;show dSeq _ _ _ [some (.tup (ts.map tupS)),some (.tup (us.map tupS)),none] S;refine⟨_,rfl,aQp (enc:=tupS) (f:=λt=>tupS (srS (t++[zz8]))) (λt j Q q=>⟨z9999 (by show 1<=9999;decide),z9999 (by have:=h5 t j;show(t.map D.str).length + 1<=9999;rw[aj];omega),.inl ⟨t++[zz8],by rw[bS];rfl,_,rfl,q⟩⟩) (z9999 (by show 0 + us.length<=_;omega)) (.inr (.inr ⟨us.map λt=>srS (t++[zz8]),by rw[bD,bd];rfl,_,rfl,?_⟩))⟩
  refine⟨z9999 (by decide),by unfold okE;rw[hX];rfl,_,rfl,ite2 (λ_=>aQa q) λc=>?_⟩
  have hu:us≠[]:=by rintro rfl;exact c rfl
  refine⟨us,rfl,by omega,λt j=>by have:=h5 t j;omega,_,rfl,_,rfl,ite2 (λ_=>aQa q) λc2=>?_⟩
  have n11:(nms us).length<=11:=by
   rw[aj] at c2
   have:¬ ((nms us).length:Int) > 11:=λh=>c2 (decide_eq_true h)
   omega
  have L:∀ t∈us,zz8∉t:=λt j h=>Y (mem_nms.mpr ⟨t,j,h⟩);have mem:∀ (t:List Str) (x:Str),x∈srS (t++[zz8])↔x∈t\/x=zz8:=λt x=>by rw[mem_srS,ar,aE]
  have U:∀ t∈us,Srt (srS (t++[zz8])):=λt j=>aXz (cz.mpr ⟨(ue t j).nodup,bt.mpr ⟨by simp,dG⟩,λx O y hy e=>L t j (by rw[<- aE.mp hy,<- e];exact O)⟩)
  have hc:∀ t,t∈srT (us.map λt=>srS (t++[zz8]))↔∃ a∈us,srS (a++[zz8])=t:=λt=>by rw[mem_srT,aH]
  have cs:SrtT (srT (us.map λt=>srS (t++[zz8]))):=aXd (bH.mpr (bz (λ{a b} R hb n e=>n ((ue a R).ext (ue b hb) λx=>⟨λh=>((mem b x).mp (e ▸ (mem a x).mpr (.inl h))).resolve_right λz=>L a R (z ▸ h),λh=>((mem a x).mp (e ▸ (mem b x).mpr (.inl h))).resolve_right λz=>L b hb (z ▸ h)⟩)) su.nodup));have ce:∀ t∈srT (us.map λt=>srS (t++[zz8])),Srt t/\t.length<=12:=λt j=>by
   obtain⟨a,R,rfl⟩:=(hc t).mp j;refine⟨U a R,?_⟩;rw[(aZc _).length_eq,av]
   have:=h5 a R
   show a.length + 1<=12;omega
  have cl':(srT (us.map λt=>srS (t++[zz8]))).length<=14:=by rw[(aQy _).length_eq,aj];exact ul
  have cn:(nms (srT (us.map λt=>srS (t++[zz8])))).length<=12:=by
   refine Nat.le_trans (bZt (N:=zz8::nms us) λt j x O=>?_) (by rw[aV];omega)
   obtain⟨a,R,rfl⟩:=(hc t).mp j;rcases(mem a x).mp O with h | h
   ·exact aq _ (mem_nms.mpr ⟨a,R,h⟩)
   ·rw[h];exact ao
  generalize srT (us.map λt=>srS (t++[zz8]))=C at hc cs ce cl' cn;refine⟨C,rfl,by omega,by omega,cs,ce,by omega,λlo hlo=>?_⟩
  refine⟨us,rfl,by omega,by omega,su,λt j=>⟨ue t j,by have:=h5 t j;omega⟩,by omega,λoa Z=>?_⟩
  rw[hlo.uniq (dX7 hu Y hc Z)];have oal:=aZw Z n11;refine⟨z9999 (by show 1<=9999;decide),z9999 (by show 1<=9999;decide),z9999 (by show(oa.map tupS).length + 1<=9999;rw[aj];omega),.inr (.inr ⟨oa++[[zz8]],by rw[bS];rfl,_,rfl,flE.ok 9 _ _ (by decide),?_⟩)⟩
  rw[decide_eq_true rfl];exact aQa q
end
abbrev bZw:Stmt:=top 27
theorem sc_law:FnScope ["script", "pile", "turn", "sets", "turned", "other"] ["script"] (aQ4 bZw):=fsc
section
variable {P:aC} {w:aO} {K:ap} {mg:Str->Option ad} {base:a9} {pt cc:Addr}
theorem fZi {f:Addr} {fd:dw} (Fn:Fun K "law" "law" bZw f fd) (B:Bs mg) (d_law_pile:Df P w K mg base 49 "_law_pile" ["script"] (spU K bQ9)) (d_law_next:Df P w K mg base 49 "_law_next" ["pile", "most"] (spU K aQq)) (d_law_some_sets:Df P w K mg base 49 "_law_some_sets" ["pile", "most"] (spU K bXw)) (d_law_named:Df P w K mg base 49 "_law_named" ["pile", "sets", "ahead"] (spU K aX4)) (d_law_renamed:Df P w K mg base 49 "_law_renamed" ["sets", "turned"] (spU K aZn)) (d_least_rows:Df P w K mg base 49 "least_rows" ["sets"] (spU K aZ4)) (d_each_two_meet:Df P w K mg base 49 "each_two_meet" ["sets"] (spU K aZb)) (d_is_full:Df P w K mg base 49 "is_full" ["sets"] (spU K bZ2)) (d_law_two_right:Df P w K mg base 49 "_law_two_right" ["pile"] (spU K aJ8)) (d_law_name_more_right:Df P w K mg base 49 "_law_name_more_right" ["sets"] (spU K aXn)):FnOk P w K mg base CX0 50 f fd ["script"] (spU K (bXk 63)):=by
 refine e_fn Fn sc_law ?_ λcdv A outer s H E G=>⟨_,(aQ2 (aQe (i:=1) sc_law.nd rfl (bp rfl) (aQ3 d_law_pile G rfl (aQ0 (dv 0) aQ1)))
  (aQ2 (cQp gL rfl (aZq rfl B.range (aQ0 aQ5 aQ1)) (aXu (i:=2) sc_law.nd rfl (bp rfl)) (aQ2 (aQe (i:=3) sc_law.nd rfl (bp rfl) (aQ3 d_law_some_sets G rfl (aQ0 (dv 1) (aQ0 aQ5 aQ1))))
  (aQ2 (aQe (i:=4) sc_law.nd rfl (bp rfl) (aQ3 d_law_named G rfl (aQ0 (dv 1) (aQ0 (dv 3) (aQ0 (e_ix (aZu (b:=false) (aQ0 aZm (aQ0 aZm (aQ0 aZm aQ1)))) (aQ3 d_law_next G rfl (aQ0 (dv 1) (aQ0 aQ5 aQ1)))) aQ1)))))
  (aQ2 (aQe (i:=5) sc_law.nd rfl (bp rfl) (aQ3 d_law_renamed G rfl (aQ0 (dv 3) (aQ0 (dv 4) aQ1))))
  (aQ2 (aJa (eQk G (aQ3 d_least_rows G rfl (aQ0 (dv 5) aQ1)) (aQ3 d_law_renamed G rfl (aQ0 (aQ3 d_least_rows G rfl (aQ0 (dv 3) aQ1)) (aQ0 (dv 4) aQ1)))) (aQ6 (aQf e_bl)) aZa)
  (aQ2 (aJa (PWD.pt (cJ8 (eQk G (aQ3 d_each_two_meet G rfl (aQ0 (dv 5) aQ1)) (aQ3 d_each_two_meet G rfl (aQ0 (dv 3) aQ1))) (cQm (eQk G (aQ3 d_is_full G rfl (aQ0 (dv 5) aQ1)) (aQ3 d_is_full G rfl (aQ0 (dv 3) aQ1)))))) (aQ6 (aQf e_bl)) aZa)
  (aQ6 (aJa (PWD.pt (cJ8 (aJ6 (aXk (aQ3 d_law_two_right G rfl (aQ0 (dv 1) aQ1)))) (cQm (aJ6 (aXk (aQ3 d_law_name_more_right G rfl (aQ0 (dv 3) aQ1))))))) (aQ6 (aQf e_bl)) aZa))))))))
  (aQ6 (aQf e_bl)))),?_⟩
 ·rintro ds S Q ⟨ns,rfl,_⟩;rfl
 ·rintro ds S Q ⟨ns,rfl,h63,hS,q⟩;have z:∀ n:Nat,n<=99->n<=sizeLine:=λn h=>z9999 (by omega)
  refine⟨ns,rfl,h63,λp S1 hp off dk=>⟨⟨by decide,by decide⟩,?_⟩⟩
  refine bZm (λi Γ S'=>∃ (x2 x3 x4 x5:Option D),Γ=[some (.lst (ns.map D.int)),some (.ref p),x2,x3,x4,x5]/\Pile S' p) ⟨none,none,none,none,rfl,dk⟩ ?_ ?_
  ·rintro i x Γ S2 N hx ⟨x2,x3,x4,x5,rfl,dk2⟩ hN;refine⟨trivial,p,14,rfl,dk2,by decide,λts S3 hC hz off3 dk3=>?_⟩
   have l14:=hC.len;have hs:=hC.srt;have he:=hC.each;have R:=hC.nms;have es:=λt j=>(he t j).1;have hn:∀ t∈ts,∀ n∈t,n∈nms ts:=λt j n hn=>mem_nms.mpr ⟨t,j,hn⟩;refine⟨z _ (by show 3<=99;decide),p,3,rfl,dk3,by decide,by decide,λr S4 r0 r1 off4 dk4=>?_⟩
   obtain⟨w,hat,w60⟩:∃ w:Str,atI [D.str (a7 ""),.str (a7 "room"),.str (a7 "q")] r=some (.str w)/\w.length<=60:=by
    have h:r=0\/r=1\/r=2:=by omega
    rcases h with rfl | rfl | rfl <;> exact⟨_,rfl,by decide⟩
   refine⟨_,_,rfl,hat,p,ts,w,rfl,dk4,by omega,λt j=>by have:=(he t j).2;omega,R,w60,λdp ms S5 hdp dpa U mn _ hd2 off5 dk5=>?_⟩
   have su:=aZ2 ts;refine⟨dp,nms ts,ms,ts,rfl,hd2,U,by omega,λt j=>⟨by have:=(he t j).2;omega,hn t j⟩,?_⟩
   obtain⟨sO,eO,lO,mO⟩:=dQf U su.nodup mn hs he hn;have iO:=λout h=>fZd (out:=out) U su.nodup mn hn h;have tO:=dJ1 U mn es hn;have fO:=eZp U su.nodup mn es hn;show dSeq _ _ _ [some (.lst (ns.map D.int)),some (.ref p),some x,some (.tup (ts.map tupS)),some (.ref dp),some (.tup ((srT (ts.map (cl (nms ts) ms))).map tupS))] S5;generalize srT (ts.map (cl (nms ts) ms))=O at sO eO lO mO iO tO fO;have nO:(nms O).length<=12:=Nat.le_trans ((aZ2 O).nodup.length_le_of_subset mO) (by omega)
   have e12:∀ t∈O,Srt t/\t.length<=12:=λt j=>⟨(eO t j).1,by have:=(eO t j).2;omega⟩
   have L:∀ t∈ts,Srt t/\t.length<=12:=λt j=>⟨(he t j).1,by have:=(he t j).2;omega⟩
   refine⟨O,rfl,by omega,by omega,sO,e12,by omega,λlo hlo=>⟨ts,rfl,by omega,by omega,hs,L,by omega,λlt J=>?_⟩⟩
   have ll:=aZw J R;refine⟨dp,nms ts,ms,lt,rfl,hd2,U,by omega,λt j=>⟨by have:=bQb J j R;omega,λn h1=>((J.all t).mp j).sub h1⟩,?_⟩
   rw[hlo.uniq (iO lt J)];have bx:∀ P:Prop,∃ b:Bool,b=true↔P:=λP=>by
    by_cases h:P
    ·exact⟨true,by simp[h]⟩
    ·exact⟨false,by simp[h]⟩
   obtain⟨b1,Z⟩:=bx (etm ts);obtain⟨b2,Y⟩:=bx (dX2 ts);refine⟨flE.ok 9 _ _ (by decide),false,eZi rfl,?_⟩
   refine⟨O,b1,rfl,by omega,λt j=>by have:=(e12 t j).2;omega,Z.trans tO.symm,ts,b1,rfl,by omega,λt j=>by have:=(L t j).2;omega,Z,rfl,false,eZi rfl,iteF ?_⟩
   refine⟨O,b2,rfl,by omega,sO,e12,by omega,Y.trans fO.symm,ts,b2,rfl,by omega,hs,L,by omega,Y,rfl,false,eZi rfl,iteF ?_⟩
   exact⟨p,rfl,dk5,λS6 off6 dk6=>⟨ts,rfl,hC,hz,hN _ _ ⟨_,_,_,_,rfl,dk6⟩⟩⟩
  ·rintro Γ S2 ⟨x2,x3,x4,x5,rfl,dk2⟩;exact⟨trivial,aXx (λ_ _ e=>e) (q _)⟩
end
end Toy
set_option maxHeartbeats 4000000
namespace Toy
open PySem L2
theorem fin {l:je} {w:aO} {K:ap} {h:a9} {mg:Str->Option ad} {fa f3:Addr} (X:K.In h) (G:h.Ns a8 mg) (hfa:mg "law" = some (.ref fa)) (B:Bs mg) (AB:mg "abs" = none) (BD:mg "dict" = none)
  (T1:Tx K mg "has_all" s_has_all) (T2:Tx K mg "meets" s_meets) (T3:Tx K mg "without_names" s_without_names) (T4:Tx K mg "link_of" s_link_of) (T5:Tx K mg "without_row" s_without_row) (T6:Tx K mg "least_rows" s_least_rows) (T7:Tx K mg "hits" s_hits) (T8:Tx K mg "each_two_meet" s_each_two_meet) (T9:Tx K mg "is_full" s_is_full) (T10:Tx K mg "has_some_set" s_has_some_set) (T11:Tx K mg "_law_pile" s_law_pile) (T12:Tx K mg "_law_next" s_law_next) (T13:Tx K mg "_law_names" s_law_names) (T14:Tx K mg "_law_set" s_law_set) (T15:Tx K mg "_law_collection" s_law_collection) (T16:Tx K mg "_law_some_sets" s_law_some_sets) (T17:Tx K mg "_law_held" s_law_held) (T18:Tx K mg "_law_renamed" s_law_renamed) (T19:Tx K mg "_law_in_any_order" s_law_in_any_order) (T20:Tx K mg "_law_named" s_law_named) (T21:Tx K mg "_law_some" s_law_some) (T22:Tx K mg "_law_two_right" s_law_two_right) (T23:Tx K mg "_law_name_more_right" s_law_name_more_right)
  {od3 an3:Option Addr} {sl3:Array (Option ad)} {oc3 kV3 dc3 pm3 cd3 ct3:ad}
  (a3:bG K a8 "law" = some (some (.ref f3))) (l3:K.lookup f3=some ⟨oc3,od3,.func (d5 "law" "law" (aXa bZw) (aZk bZw) (aQ4 bZw) .none kV3 dc3 pm3 an3 cd3 ct3),sl3⟩) (c3:fV K cd3 "law" = true) (k3:e7 K (.ref f3)=true) :
  ∃ fd:dw,(∀ (s:ai) (v:ad),BindsTo s fd ⟨[v],[]⟩ [("script",v)])/\∀ base:a9,K.In base->base.Ns a8 mg->FnOk l.prog w K mg base CX0 50 fa fd ["script"] (spU K (bXk 63)):=by
 have e:=hfa.symm.trans (PySem.W.mg_of X G a3);cases e;refine⟨d5 "law" "law" (aXa bZw) (aZk bZw) (aQ4 bZw) .none kV3 dc3 pm3 an3 cd3 ct3,λs v=>.of_eq rfl,λbase XB GB=>?_⟩;have F3:=dXc (st:=bZw) l3 c3 k3;have d_law_pile:=bJs (P:=l.prog) (w:=w) (base:=base) T11 B;have j:=bJt (P:=l.prog) (w:=w) (base:=base) T12 B AB;have R:=bXv (P:=l.prog) (w:=w) (base:=base) T13 B (j.mono (by decide))
 have d_law_set:=cZq (P:=l.prog) (w:=w) (base:=base) T14 B (j.mono (by decide))
 have z:=aJ3 (P:=l.prog) (w:=w) (base:=base) T15 B (j.mono (by decide)) (d_law_set.mono (by decide))
 have d_law_some_sets:=aJb (P:=l.prog) (w:=w) (base:=base) T16 B (j.mono (by decide)) (R.mono (by decide)) (z.mono (by decide))
 have d_law_held:=bJy (P:=l.prog) (w:=w) (base:=base) T17 B;have O:=aXf (P:=l.prog) (w:=w) (base:=base) T19 B (j.mono (by decide))
 have U:=bXx (P:=l.prog) (w:=w) (base:=base) T20 B BD (d_law_held.mono (by decide)) (O.mono (by decide))
 have N:=bQk (P:=l.prog) (w:=w) (base:=base) T18 B;have d_meets:=dX8 (P:=l.prog) (w:=w) (base:=base) T2 B;have d_without_row:=bQl (P:=l.prog) (w:=w) (base:=base) T5 B (d_meets.mono (by decide))
 have d_has_all:=cZr (P:=l.prog) (w:=w) (base:=base) T1 B;have Y:=aJc (P:=l.prog) (w:=w) (base:=base) T3 B;have d_link_of:=cZs (P:=l.prog) (w:=w) (base:=base) T4 B (d_has_all.mono (by decide)) (Y.mono (by decide))
 have d_hits:=eZy (P:=l.prog) (w:=w) (base:=base) T7 B (d_meets.mono (by decide))
 have L:=bQc (P:=l.prog) (w:=w) (base:=base) T10 B (d_has_all.mono (by decide))
 have q:=bZv (P:=l.prog) (w:=w) (base:=base) T6 B (d_without_row.mono (by decide)) (d_link_of.mono (by decide)) (d_hits.mono (by decide)) (L.mono (by decide))
 have D:=aJd (P:=l.prog) (w:=w) (base:=base) T8 B (d_meets.mono (by decide))
 have d_is_full:=cZu (P:=l.prog) (w:=w) (base:=base) T9 B (D.mono (by decide)) (L.mono (by decide)) (q.mono (by decide))
 have d_law_some:=bJz (P:=l.prog) (w:=w) (base:=base) T21 B (j.mono (by decide)) (R.mono (by decide)) (z.mono (by decide))
 have Z:=aJe (P:=l.prog) (w:=w) (base:=base) T22 B (d_law_some.mono (by decide)) (U.mono (by decide)) (N.mono (by decide)) (q.mono (by decide))
 have J:=aZy (P:=l.prog) (w:=w) (base:=base) T23 B (d_law_held.mono (by decide)) (q.mono (by decide))
 exact fZi F3 B (d_law_pile.mono (by decide)) (j.mono (by decide)) (d_law_some_sets.mono (by decide)) (U.mono (by decide)) (N.mono (by decide)) (q.mono (by decide)) (D.mono (by decide)) (d_is_full.mono (by decide)) (Z.mono (by decide)) (J.mono (by decide))
end Toy
namespace PySem.W.Fast
theorem tw6327643437035905595:True:=⟨⟩
theorem tw3668079154728318654:True:=⟨⟩
theorem tw12859341559490595953:True:=⟨⟩
theorem tw205715755063457495:True:=⟨⟩
theorem tw8465396778813677371:True:=⟨⟩
theorem tw8029892146967847809:True:=⟨⟩
theorem tw17610569976238482076:True:=⟨⟩
theorem tw4640115763213007429:True:=⟨⟩
theorem tw3289929622254057268:True:=⟨⟩
theorem tw15768558005396831967:True:=⟨⟩
theorem tw13828059889796642386:True:=⟨⟩
end PySem.W.Fast
open PySem PySem.W PyProof.Rows
set_option maxRecDepth 100000 in
set_option maxHeartbeats 0 in
theorem PySem.Challenge.cw_corepetals_k56_whole_rows_otherwise_holds : PySem.Challenge.rw_corepetals_k56_whole_rows_otherwise.Holds := by
 w_on;o_law;k_head;(case hw=>w_witness2)
 k_fill
 refine L2.walkD (l:=PySem.Challenge.rw_corepetals_k56_whole_rows_otherwise) rfl rfl (λw h Y=>PySem.W.kIn_of Y) ?F
 case F =>
  intro w mg fa h KX G hmg;have B:L2.Bs mg:=by
   refine' L2.bs_mk KX G (L2.bs_all ?z1 ?z2 ?z3 ?z4 ?z5 ?z6 ?z7 ?z8 ?z9 ?z10 ?z11 ?z12 ?z13 ?z14 ?z15 ?z16 ?z17) <;> k_is
  have AB:mg "abs" = none:=by
   refine' g7 KX G ?z
   k_is
  have BD:mg "dict" = none:=by
   refine' g7 KX G ?zd
   k_is
  have T1:L2.Tx (L2.KOf KX) mg "has_all" Toy.s_has_all:=by
   dsimp only[L2.KOf];exact L2.tx_mk KX G (by k_is) (by k_is) (by k_is) (by k_is)
  have T2:L2.Tx (L2.KOf KX) mg "meets" Toy.s_meets:=by
   dsimp only[L2.KOf];exact L2.tx_mk KX G (by k_is) (by k_is) (by k_is) (by k_is)
  have T3:L2.Tx (L2.KOf KX) mg "without_names" Toy.s_without_names:=by
   dsimp only[L2.KOf];exact L2.tx_mk KX G (by k_is) (by k_is) (by k_is) (by k_is)
  have T4:L2.Tx (L2.KOf KX) mg "link_of" Toy.s_link_of:=by
   dsimp only[L2.KOf];exact L2.tx_mk KX G (by k_is) (by k_is) (by k_is) (by k_is)
  have T5:L2.Tx (L2.KOf KX) mg "without_row" Toy.s_without_row:=by
   dsimp only[L2.KOf];exact L2.tx_mk KX G (by k_is) (by k_is) (by k_is) (by k_is)
  have T6:L2.Tx (L2.KOf KX) mg "least_rows" Toy.s_least_rows:=by
   dsimp only[L2.KOf];exact L2.tx_mk KX G (by k_is) (by k_is) (by k_is) (by k_is)
  have T7:L2.Tx (L2.KOf KX) mg "hits" Toy.s_hits:=by
   dsimp only[L2.KOf];exact L2.tx_mk KX G (by k_is) (by k_is) (by k_is) (by k_is)
  have T8:L2.Tx (L2.KOf KX) mg "each_two_meet" Toy.s_each_two_meet:=by
   dsimp only[L2.KOf];exact L2.tx_mk KX G (by k_is) (by k_is) (by k_is) (by k_is)
  have T9:L2.Tx (L2.KOf KX) mg "is_full" Toy.s_is_full:=by
   dsimp only[L2.KOf];exact L2.tx_mk KX G (by k_is) (by k_is) (by k_is) (by k_is)
  have T10:L2.Tx (L2.KOf KX) mg "has_some_set" Toy.s_has_some_set:=by
   dsimp only[L2.KOf];exact L2.tx_mk KX G (by k_is) (by k_is) (by k_is) (by k_is)
  have T11:L2.Tx (L2.KOf KX) mg "_law_pile" Toy.s_law_pile:=by
   dsimp only[L2.KOf];exact L2.tx_mk KX G (by k_is) (by k_is) (by k_is) (by k_is)
  have T12:L2.Tx (L2.KOf KX) mg "_law_next" Toy.s_law_next:=by
   dsimp only[L2.KOf];exact L2.tx_mk KX G (by k_is) (by k_is) (by k_is) (by k_is)
  have T13:L2.Tx (L2.KOf KX) mg "_law_names" Toy.s_law_names:=by
   dsimp only[L2.KOf];exact L2.tx_mk KX G (by k_is) (by k_is) (by k_is) (by k_is)
  have T14:L2.Tx (L2.KOf KX) mg "_law_set" Toy.s_law_set:=by
   dsimp only[L2.KOf];exact L2.tx_mk KX G (by k_is) (by k_is) (by k_is) (by k_is)
  have T15:L2.Tx (L2.KOf KX) mg "_law_collection" Toy.s_law_collection:=by
   dsimp only[L2.KOf];exact L2.tx_mk KX G (by k_is) (by k_is) (by k_is) (by k_is)
  have T16:L2.Tx (L2.KOf KX) mg "_law_some_sets" Toy.s_law_some_sets:=by
   dsimp only[L2.KOf];exact L2.tx_mk KX G (by k_is) (by k_is) (by k_is) (by k_is)
  have T17:L2.Tx (L2.KOf KX) mg "_law_held" Toy.s_law_held:=by
   dsimp only[L2.KOf];exact L2.tx_mk KX G (by k_is) (by k_is) (by k_is) (by k_is)
  have T18:L2.Tx (L2.KOf KX) mg "_law_renamed" Toy.s_law_renamed:=by
   dsimp only[L2.KOf];exact L2.tx_mk KX G (by k_is) (by k_is) (by k_is) (by k_is)
  have T19:L2.Tx (L2.KOf KX) mg "_law_in_any_order" Toy.s_law_in_any_order:=by
   dsimp only[L2.KOf];exact L2.tx_mk KX G (by k_is) (by k_is) (by k_is) (by k_is)
  have T20:L2.Tx (L2.KOf KX) mg "_law_named" Toy.s_law_named:=by
   dsimp only[L2.KOf];exact L2.tx_mk KX G (by k_is) (by k_is) (by k_is) (by k_is)
  have T21:L2.Tx (L2.KOf KX) mg "_law_some" Toy.s_law_some:=by
   dsimp only[L2.KOf];exact L2.tx_mk KX G (by k_is) (by k_is) (by k_is) (by k_is)
  have T22:L2.Tx (L2.KOf KX) mg "_law_two_right" Toy.s_law_two_right:=by
   dsimp only[L2.KOf];exact L2.tx_mk KX G (by k_is) (by k_is) (by k_is) (by k_is)
  have T23:L2.Tx (L2.KOf KX) mg "_law_name_more_right" Toy.s_law_name_more_right:=by
   dsimp only[L2.KOf];exact L2.tx_mk KX G (by k_is) (by k_is) (by k_is) (by k_is)
  refine' Toy.fin KX G hmg B AB BD T1 T2 T3 T4 T5 T6 T7 T8 T9 T10 T11 T12 T13 T14 T15 T16 T17 T18 T19 T20 T21 T22 T23 ?a ?l ?c ?k
  (case a=>k_is);(case l=>k_is);(case c=>k_is);(case k=>k_is)
