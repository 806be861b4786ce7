import PyProof.Rows.All
import Wide.All
import OpenK.AllK
import Wide.FinOn
import Lean
import PyProof.EqAt
import PyProof.EqKinds
import PyProof.TupleCall
import PySem.SetOps
import KE.KSortTup
import KE.KDictSum
import PyProof.Rows.StrJoin2
import PyProof.Rows.SumAny
import KE.KxText
import PyProof.ZipIter
import PyProof.Rows.FactsT2
import PyProof.Rows.ZipGen
import PyProof.StrOps2
import PyProof.ListRange
import PyProof.ListStr
import PyProof.FString5
import PyProof.AutoSeq1
import PyProof.MinMaxWalk
import PyProof.WalksMore
import PyProof.Rows.CallKwBuiltin
import KE.KMinKey
import PyProof.Rows.BitMore
import KE.KLam
import PyProof.Rows.SortShellK
import PySem.Challenge.RW_corepetals_k61_whole_parts_and_bounds
open And renaming intro->j0
open Array renaming eq_empty_of_size_eq_zero->iI,filterMap->kF,getD->cW,getD_eq_getD_getElem?->ci,getElem?_eq_getElem->eO,getElem?_eq_some_iff->c7,getElem?_replicate->jP,getElem?_setIfInBounds_ne->ip,getElem?_setIfInBounds_self_of_lt->gb,getElem?_toList->br,length_toList->aT,mem_of_getElem?->eN,mem_toList_iff->d5,perm_iff_toList_perm->dO,replicate->gO,size_append->ij,size_map->kR,toList_inj->j8,toList_push->ia
open Array.Perm renaming refl->kK
open Bool renaming and_eq_true->aV,and_false->kO,eq_false_iff->fc,eq_iff_iff->i4,false_eq_true->aJ,false_ne_true->cD,not_eq_true'->cY,not_false->kS,not_true->gF,or_eq_true->kI,true_and->lh
open Classical renaming byContradiction->aK
open False renaming elim->dU
open ForInStep renaming done->ic,yield->cx
open Int renaming ediv_one->kf,toNat_natCast->cr,zero_add->kA
open LawfulBEq renaming eq_of_beq->gX
open LawfulMonad renaming pure_bind->jZ
open List renaming Pairwise->lf,all_cons->jS,all_eq_true->ba,all_map->dr,any_cons->gJ,append_assoc->cL,append_nil->cR,drop_eq_getElem_cons->cu,drop_eq_nil_of_le->fR,drop_length->fD,drop_zero->kP,eq_nil_iff_forall_not_mem->iK,eq_nil_of_length_eq_zero->bD,eraseIdx_eq_take_drop_succ->iu,ext_getElem->dY,ext_getElem?->h9,filterMap_append->iw,filterMap_cons->ce,filterMap_map->jo,filter_append->dw,filter_congr->ik,filter_cons->cH,filter_eq_nil_iff->eD,filter_eq_self->dP,filter_map->gP,filter_sublist->bj,find?_cons->du,flatMap_append->i9,flatMap_cons->cB,flatten_append->gB,flatten_cons->c6,flatten_singleton->io,forIn_cons->gM,getD_eq_getElem?_getD->ay,getElem?_append_left->gu,getElem?_append_right->gh,getElem?_cons_succ->gZ,getElem?_eq_getElem->ah,getElem?_eq_none->bL,getElem?_eq_some_iff->a9,getElem?_map->aY,getElem?_set_ne->gc,getElem?_take_of_lt->jO,getElem_drop->jK,getElem_inj->jW,getElem_map->gq,getElem_mem->db,getElem_of_mem->bf,getElem_range->gS,getElem_take->ib,getLastD_cons->jB,head?_map->kX,idxOf_lt_length_of_mem->jf,isEmpty_nil->j5,length->eY,length_append->ax,length_cons->aG,length_drop->bQ,length_eq_zero_iff->j4,length_eraseIdx_of_lt->jy,length_filter_le->bv,length_map->ae,length_nil->dq,length_pos_iff->fx,length_range->di,length_reverse->gx,length_singleton->fX,length_take->a7,lookup_cons->da,mapM_cons->kW,mapM_nil->lg,mapM_toArray->f9,map_append->bo,map_congr_left->gy,map_cons->a8,map_map->bi,map_nil->e5,mem_append->a6,mem_append_left->cm,mem_append_right->bq,mem_cons->aw,mem_cons_of_mem->ak,mem_cons_self->aj,mem_filter->ao,mem_filterMap->dW,mem_flatMap->iJ,mem_flatten->de,mem_map->av,mem_of_getElem?->bS,mem_of_head?->fh,mem_of_mem_drop->fg,mem_of_mem_take->gj,mem_range->aU,mem_singleton->aF,mergeSort_perm->gz,nil_append->c9,nil_sublist->eH,nodup_append->bY,nodup_cons->bA,nodup_nil->dM,nodup_range->iD,not_mem_nil->fy,of_mem_zip->iX,pairwise_append->dE,pairwise_cons->aM,pairwise_flatten->iy,pairwise_iff_getElem->cb,pairwise_lt_range->fM,pairwise_map->bu,pairwise_mergeSort->fF,pairwise_singleton->bI,perm_append_left_iff->jF,perm_append_singleton->jv,perm_ext_iff_of_nodup->cI,range->aI,range_succ->iY,replicate->jl,reverse_cons->hZ,reverse_perm->jL,singleton_sublist->dN,size_toArray->aq,sublist_cons_iff->fY,sublist_flatten_of_mem->jg,sublist_nil->fG,take_add_one->cM,take_append_drop->b7,take_append_of_le_length->iU,take_length->dF,take_of_length_le->cA,take_sublist->d8,toArray->fP,zip_cons_cons->cP,zip_nil_left->f8,zip_nil_right->gR
open List.Pairwise renaming and_mem->kN,filter->bE,imp_of_mem->be,nil->d9
open List.Perm renaming append_left->ix,refl->eL,swap->kT
open List.Sublist renaming append->ja,cons₂->fS,filter->gA,refl->cZ
open MonadExcept renaming tryCatch->kY
open Nat renaming add_right_comm->ju,eq_or_lt_of_le->eM,le_add_right->fz,le_antisymm->kG,le_of_lt->gk,le_of_lt_succ->dI,le_refl->am,le_succ->d4,le_trans->aH,lt_irrefl->cT,lt_of_lt_of_le->bB,lt_or_eq_of_le->eK,lt_or_ge->bU,lt_succ_of_le->ef,lt_succ_of_lt->cK,lt_succ_self->fA,lt_trans->eA,lt_trichotomy->eg,min_eq_left->eV,mod_lt->lj,ne_of_gt->fI,ne_of_lt->aN,not_lt->iC,not_lt_zero->b8,one_le_two_pow->jA,pow_le_pow_right->d7,pow_succ->jb,succ_ne_zero->iH,succ_pos->kj,zero_add->ki,zero_le->bN
open Nat.succ renaming inj->eB
open Ne renaming symm->bX
open Option renaming getD_none->jY,isSome_iff_exists->bn,isSome_some->jt,map_eq_some_iff->bO
open Option.some renaming inj->aQ
open Or renaming inl->aS,inr->fQ
open PyProof.Rows renaming AllBare->jH,IntsAre->kh,IsTup->gV,Keyed->cw,SortKind->gH,SortSt->gU,StrsAre->ku,arrOf->bh,callWith_builtin1->iB,callWith_type1->ew,envOfC->jm,get?_update_seq->eU,get?_update_seq->i6,getElem?_mirror_all->i8,listItems_at->kt,listUpdate_at->gI,lt_int->k5,lt_str->k4,mirror->dQ,oneLt_int->kD,oneLt_str->kE,pairsOf->kC,pendingOf->j9,reverseSlice'_eq->dG,seqEpoch_at->iT,seqObj->bK,setArr->dy,slicePart_none->jn,slot_tuple_getitem->cg,sortedHeap->jz,wpS_bind->bz,wpS_forRange->d3,wpS_modify->ft,wpS_mono->gK,wpS_pure->bZ
open PyProof.Rows.F renaming entry_set_update_loop->dh,plain_set_update_loop->cf
open PySem renaming Around->aW,Builtin->cX,Comprehension->fq,FuncData->dz,Heap->bd,IsPart->kg,KeyKind->k7,Keyword->hX,NameKind->fU,Paired->bc,Program->aA,SetTable->aR,Shared->ai,Value->ad,World->aO,argBest->fT,assign->jN,assignEach->fk,attributeBase->gE,backTo->cC,backToKw->jq,behindInMarks->eE,binaryOp->eX,bootBuiltins->cG,builtinsNs->iz,cLine->bR,call_meets->jr,cellsFrom->eS,closureFor->js,codeAny->fv,codeAny_builtin->b9,codeAny_mono->gp,codeAny_of_tree->gN,compEnvC->iP,compTurn->ff,compareOp->cq,concat_meets->ke,firstArgMember->jw,foldedSetIterable->cy,getItem->hU,holding->fZ,keywordEach->gi,letOwnedTupleGo->eR,mainGlobals->aX,mem_of_lookup->fw,model->aE,noFill_tuple_add->jX,ofAClassStatement->f6,pickOrder->jj,plainId_quiet->dl,plainKind->ji,pushCells->gY,putSet_of->iF,pyIter->iW,pyNext->fJ,rawInt->eJ,recursionLimit->g6,relayAll->iQ,richCompare_meets_room->ig,seqItems?->j2,setAddHashed->kl,setField->kU,setsByText->kr,sizeLine_eq->aZ,sliceBounds->e8,sliceRange->kz,slot_list_getitem->jI,standAt->gn,starEach->az,strKind->eG,swapsWith->iA,sysModules->fj,unsupported->iR,wpAny->aD,wpAny_Call_Name_kw->fL,wpAny_Name->gQ,wpAny_askSetting->dD,wpAny_bind->aa,wpAny_callSpecial?_slot->dA,wpAny_callSpecialIfBound?_slot->iG,wpAny_call_entry->cU,wpAny_execs_nil->iV,wpAny_field->eF,wpAny_forIn_list->iE,wpAny_holding->bF,wpAny_isInstance->j3,wpAny_ite_split->i5,wpAny_loadName_cell->i7,wpAny_loadName_local->eW,wpAny_loadPart'->bM,wpAny_mono->cO,wpAny_newList->iO,wpAny_newObj_type->bC,wpAny_of_eq->jJ,wpAny_passesOwn->eQ,wpAny_pure->ag,wpAny_pyIter_list->f7,wpAny_pyIter_tuple->fN,wpAny_rule->en,wpAny_seqItems->d6,wpAny_setField_rec->c8,wpAny_setState_of->dJ,wpAny_standAt->fW,wpAny_storeSet_of->ie,wpAny_truthy_bool->cJ,wpAny_tryCatch->fH,wpAny_typeOf->hW,wpAny_updateSeq->eT
open PySem.Around renaming under_plainId->bH
open PySem.AutoSeq1 renaming sub_list_list->kB,sub_tuple_tuple->gG,wpAny_loadPart'->jV
open PySem.Builtin.Builtins renaming bindParams->je
open PySem.Builtin.Frozenset renaming addrOf->jQ,updateFrom->iZ
open PySem.Builtin.List renaming listExtendWith->jd,listLengthHint->jc,listSameRef->jR,listTooLong->d0
open PySem.Builtin.Slice renaming sliceAdjust->gv,sliceApplied->dH,sliceFields->jC,slicePlaces->cN
open PySem.Builtin.SmallTypes renaming nextOf->jD
open PySem.Builtin.Str renaming strSliceIndices->cj
open PySem.Builtin.Tuple renaming tupleCompareSizes->iq,tupleExact->cE,tupleItemsOf->jp
open PySem.Calls renaming Name_function_global->gf,call_function_entry->gw,loadGlobal_builtin->jM,spliced_cons->fK,spliced_nil->g7
open PySem.Code renaming compLoop->iM,compStart->h8
open PySem.F renaming args_tuple_add_2->gD,args_tuple_lt_2->fC,called_set->bG,entry_extend_loop->jE,entry_set_init->ko,entry_tuple_add->gW,entry_tuple_lt->fO,entry_type_call->j1,plainAttrs_list->fE,plain_extend_loop->eP,plain_list_iadd->j6,plain_set_new->kL,slot_list_extend->jT,slot_set_iter->kM,slot_tuple_add->g9,slot_tuple_lt->dR,typeCall_set_1->km,type_list_extend->jU
open PySem.Heap renaming SameBut->dZ,get?_push_of_some->af,get?_push_size->au,get?_update_other->bg,get?_update_self->cF,lt_size->aC,size_push->cz
open PySem.Heap.IsSliceOf renaming new->li
open PySem.Heap.SameBut renaming refl->lv,update->bV
open PySem.NameKind renaming cell->iL,free->a5
open PySem.Obj renaming mapSeq->bw,putSet->dX
open PySem.Paired renaming length->bW
open PySem.PassesOwn renaming never->cS
open PySem.SeqAt renaming EqAt->cV,RcNeAt->cQ
open PySem.SeqAt.EqAt renaming of_refs->lm,same->kH,str_str->jx
open PySem.SetTable renaming fill->lb,fits->la,fresh->kQ,grown->dj,slot->k9
open PySem.Str renaming ofString->aL
open PySem.Value renaming bool->kb,int->kZ,isStrOf->gC,isStrOf_shape->fu,none->bJ,notImplemented->iS,ref->fV,str->jh,type->dg
open PySem.W renaming BoolBack->j7,Frag->ar,cellsFrom_some->kc,codeIn->g8,fnOf->eZ,keepIn->gg,kla_obj->kJ,methodObj->jG,mg_of->k8,nsIn->bT,tabObj->im
open PySem.pickOrder renaming go->lx
open Sum renaming inl->ka,inr->gL
open True renaming intro->lq
set_option Elab.async false
set_option linter.all false
set_option maxRecDepth 100000
namespace L2
open PySem PySem.Spec PyProof.Rows
abbrev Key:=Sum Int Str
def bJm:Key->ad->Bool
 |.inl k,v=>ad.isInt k v
 |.inr x,v=>gC x v
def keyH(w:aO):Key->Int
 |.inl k=>hashInt k
 |.inr x=>hashStr w x
theorem aQo:∀{k:Key}{v:ad},bJm k v=true->(∃i t,k=ka i/\v=kZ i t)\/(∃x t,k=gL x/\v=jh x t)
 |.inl i,v,h=>by
  obtain⟨t,e⟩:=ad.isInt_shape h;exact .inl ⟨i,t,rfl,e⟩
 |.inr x,v,h=>by
  obtain⟨t,e⟩:=fu h;exact .inr ⟨x,t,rfl,e⟩
theorem dQd(i:Int)(t:Tok):bJm (.inl i) (.int i t)=true:=by simp[bJm,ad.isInt]
theorem dQe(x:Str)(t:Tok):bJm (.inr x) (.str x t)=true:=by simp[bJm,gC]
theorem fJ0(a b:Int):decide ((ka a:Key)=ka b)=(a==b):=by
 by_cases e:a=b
 ·subst e;simp
 ·have h:¬ (ka a:Key)=ka b:=λq=>e (ka.inj q);rw[decide_eq_false h];exact(beq_eq_false_iff_ne.mpr e).symm
theorem fJ1(a b:Str):decide ((gL a:Key)=gL b)=decide (a=b):=by
 by_cases e:a=b
 ·subst e;simp
 ·have h:¬ (gL a:Key)=gL b:=λq=>e (gL.inj q);rw[decide_eq_false h,decide_eq_false e]
theorem fJ2(a:Int)(b:Str):decide ((ka a)=gL b)=false:=decide_eq_false (λq=>nomatch q)
theorem fJ3(a:Str)(b:Int):decide ((gL a)=ka b)=false:=decide_eq_false (λq=>nomatch q)
def aQw(prog:aA)(w:aO):k7 prog w Key where
 is:=bJm
 hash:=keyH w
 inj:=λv a b ha hb=>by
  rcases aQo ha with⟨i,t,rfl,rfl⟩|⟨x,t,rfl,rfl⟩
  ·rcases aQo hb with⟨j,u,rfl,e⟩|⟨y,u,rfl,e⟩
   ·injection e with e1 _;rw[e1]
   ·exact nomatch e
  ·rcases aQo hb with⟨j,u,rfl,e⟩|⟨y,u,rfl,e⟩
   ·exact nomatch e
   ·injection e with e1 _;rw[e1]
 byValue:=λk v h=>by
  rcases aQo h with⟨i,t,rfl,rfl⟩|⟨x,t,rfl,rfl⟩ <;> rfl
 pyHash:=λhv h=>by
  rcases aQo hv with⟨i,t,rfl,rfl⟩|⟨x,t,rfl,rfl⟩
  ·exact wpAny_pyHash_int h
  ·exact wpAny_pyHash_str h
 eqBool:=λhu hv h=>by
  rcases aQo hu with⟨i,t,rfl,rfl⟩|⟨x,t,rfl,rfl⟩
  ·rcases aQo hv with⟨j,u,rfl,rfl⟩|⟨y,u,rfl,rfl⟩
   ·rw[fJ0] at h;exact wpAny_eqBool_int h
   ·rw[fJ2] at h;exact cV.int_str i t y u _ _ _ _ h
  ·rcases aQo hv with⟨j,u,rfl,rfl⟩|⟨y,u,rfl,rfl⟩
   ·rw[fJ3] at h;exact cV.str_int x t j u _ _ _ _ h
   ·rw[fJ1] at h;exact wpAny_eqBool_str h
 «strs»:=λk x t v h=>by
  rcases aQo h with⟨i,u,rfl,e⟩|⟨y,u,rfl,e⟩
  ·exact nomatch e
  ·injection e with e1 _
   subst e1;cases v <;> rfl
theorem cQo(prog:aA)(w:aO)(i:Int)(t:Tok):(aQw prog w).is (.inl i) (.int i t)=true:=dQd i t
theorem cQp(prog:aA)(w:aO)(x:Str)(t:Tok):(aQw prog w).is (.inr x) (.str x t)=true:=dQe x t
inductive V where
 |non|bl (b:Bool)|int (i:Int)|str (x:Str)|byt (b:Array UInt8)|flt (b:UInt64)|ref (a:Addr)|ty (n:String)
 deriving DecidableEq
def RelV:V->ad->Prop
 |.non,u=>u=bJ
 |.bl b,u=>u=kb b
 |.int i,u=>∃t,u=kZ i t
 |.str x,u=>∃t,u=jh x t
 |.byt b,u=>∃t,u=ad.bytes b t
 |.flt b,u=>∃t,u=ad.float b t
 |.ref a,u=>u=fV a
 |.ty n,u=>u=dg n
abbrev Vals:List V->List ad->Prop:=bc RelV
theorem Vals.length(r:Vals xs us):xs.length=us.length:=bW r
theorem Vals.get:∀{xs:List V}{us:List ad}{i:Nat}{x:V},Vals xs us->xs[i]?=some x->∃u,us[i]?=some u/\RelV x u
 |_,_,_,_,.nil,e=>by simp at e
 |_,_,0,_,.cons r _,e=>by simp at e;subst e;exact⟨_,rfl,r⟩
 |_,_,i+1,x,.cons _ t,e=>by
  obtain⟨u,h1,h2⟩:=Vals.get t (by simpa using e)
  exact⟨u,by simpa using h1,h2⟩
theorem Vals.set(r:RelV x u):∀{xs:List V}{us:List ad}(i:Nat),Vals xs us->Vals (xs.set i x) (us.set i u)
 |_,_,_,.nil=>.nil
 |_,_,0,.cons _ t=>.cons r t
 |_,_,i+1,.cons q t=>.cons q (Vals.set r i t)
theorem Vals.append:∀{xs ys:List V}{us ws:List ad},Vals xs us->Vals ys ws->Vals (xs++ys) (us++ws)
 |_,_,_,_,.nil,s=>s
 |_,_,_,_,.cons r t,s=>.cons r (Vals.append t s)
theorem Vals.take:∀{xs:List V}{us:List ad}(n:Nat),Vals xs us->Vals (xs.take n) (us.take n)
 |_,_,0,_=>.nil
 |_,_,_+1,.nil=>.nil
 |_,_,n+1,.cons r t=>.cons r (Vals.take n t)
theorem Vals.drop:∀{xs:List V}{us:List ad}(n:Nat),Vals xs us->Vals (xs.drop n) (us.drop n)
 |_,_,0,r=>r
 |_,_,_+1,.nil=>.nil
 |_,_,n+1,.cons _ t=>Vals.drop n t
def RelO:Option V->Option ad->Prop
 |some v,some u=>RelV v u
 |none,none=>True
 |_,_=>False
def KV{κ:Type}:List (κ×V)->List (κ×ad)->Prop:=bc λ(p:κ×V) (q:κ×ad)=>p.1=q.1/\RelV p.2 q.2
def kV:Key->V
 |.inl i=>.int i
 |.inr x=>.str x
inductive HO where
 |lst (xs:List V)
 |tup (xs:List V)
 |dK (kvs:List (Key×V))|dT (kvs:List (List Key×V))
 |set (S:Int->Bool) (n:Nat)
 |ins (C dx:Addr) (fs:List (Str×V))
 |own (x:Addr)
 |xd (fs:List (Str×V))
 |met (f x:Addr)
 |rng (lo hi:Int)
 |frz (o:Obj) (u:HO)
 |tbl (ps:Array ad)
 |ext (φ:bd->Prop)
abbrev Hp:=Addr->Option HO
def upd(H:Hp)(a:Addr)(o:HO):Hp:=λb=>if b=a then some o else H b
theorem aQ9:upd H a o a=some o:=by unfold upd;rw[if_pos rfl]
theorem upd_ne(h:b≠a):upd H a o b=H b:=by unfold upd;rw[if_neg h]
theorem gXz{H:Hp}(h:H a=some o)(h':H b=some u)(d:o≠u):a≠b:=by
 intro e;subst e;rw[h] at h';exact d (aQ h')
theorem ne_of_none{H:Hp}(h:H a=some o)(h':H b=none):a≠b:=by
 intro e;subst e;rw[h] at h';cases h'
section
variable(P:aA)(w:aO)
def ObjOk(H:Hp)(h:bd)(a:Addr):HO->Prop
 |.lst xs=>xs.length<=sizeLine/\∃(its:List ad) (n:Nat),Vals xs its/\h.get? a=some {cls:=.type "list",data:=.seq its.toArray n}
 |.tup xs=>xs.length<=sizeLine/\∃its:List ad,Vals xs its/\gV h a its.toArray/\∀o,h.get? a=some o->o.dict=none
 |.dK kvs=>kvs.length<=sizeLine/\(a==fj)=false/\∃vs,KV kvs vs/\h.DictOf (aQw P w) a vs
 |.dT kvs=>kvs.length<=sizeLine/\(a==fj)=false/\∃xs:List (List Key×Addr×ad),
   bc (λ(p:List Key×V) (q:List Key×Addr×ad)=>p.1=q.1/\H q.2.1=some (.tup (p.1.map kV))/\RelV p.2 q.2.2) kvs xs /\
   ∃o es ep,h.get? a=some o/\o.ExactDict/\o.data=.dict es ep/\es.toList=xs.map (entryOfKey (tupleKind (aQw P w)))/\(xs.map (·.1)).Nodup
 |.set S n=>h.SetOf (intKind P w) a S n
 |.ins C dx fs=>H dx=some (.own a)/\fs.length<=1000/\dx≠a/\h.get? a=some (PySem.W.instObj C dx) /\
   ∃mA,h.Ns1 dx mA/\(∀f,RelO (fs.lookup f) (mA f))/\PySem.Within mA (fs.map (·.1))
 |.own _=>∃o,h.get? a=some o
 |.xd fs=>∃mA,h.Ns1 a mA/\∀f,RelO (fs.lookup f) (mA f)
 |.rng lo hi=>∃t u v,h.get? a=some {cls:=.type "range",data:=.fields #[.int lo t,.int hi u,.int 1 v]}
 |.frz o u=>h.get? a=some o/\ObjOk H h a u
 |.tbl ps=>h.get? a=some {cls:=.none,data:=.fields ps}
 |.met f x=>h.get? a=some (jG (.ref f) (.ref x))
 |.ext φ=>φ h/\(∃o,h.get? a=some o)/\∀h1 h2:bd,φ h1->(∀o,h1.get? a=some o->h2.get? a=some o)->φ h2
def HOk(H:Hp)(h:bd):Prop:=∀a o,H a=some o->ObjOk P w H h a o
end
section
variable{P:aA}{w:aO}{H H':Hp}{h h':bd}{a:Addr}{o:HO}
theorem ObjOk.lt(x:ObjOk P w H h a o):a<h.objs.size:=by
 cases o with
 |lst xs=>obtain⟨_,_,_,_,e⟩:=x;exact aC e
 |tup xs=>obtain⟨_,_,_,p⟩:=x;exact p.1.lt
 |dK d=>obtain⟨_,_,_,_,o,_,_,e,_⟩:=x;exact aC e
 |dT d=>obtain⟨_,_,_,_,o,_,_,e,_⟩:=x;exact aC e
 |set S n=>obtain⟨o,_,_,_,e,_⟩:=x;exact aC e
 |ins C z fs=>obtain⟨_,_,_,e,_⟩:=x;exact aC e
 |own y=>obtain⟨_,e⟩:=x;exact aC e
 |xd fs=>obtain⟨_,⟨_,_,_,e,_⟩,_⟩:=x;exact aC e
 |rng lo hi=>obtain⟨_,_,_,e⟩:=x;exact aC e
 |frz j u=>obtain⟨e,_⟩:=x;exact aC e
 |tbl ps=>exact aC (x)
 |met f y=>exact aC (x)
 |ext φ=>obtain⟨_,⟨_,e⟩,_⟩:=x;exact aC e
theorem Paired.mapP{F G:α->β->Prop}:∀{l₁:List α}{l₂:List β},bc F l₁ l₂->(∀a b,F a b->G a b)->bc G l₁ l₂
 |_,_,.nil,_=>.nil
 |_,_,.cons r t,f=>.cons (f _ _ r) (Paired.mapP t f)
theorem ObjOk.stay(x:ObjOk P w H h a o)(k:∀b u,(b=a\/H b=some (.own a))->h.get? b=some u->h'.get? b=some u)
  (ho:∀b,H b=some (.own a)->H' b=some (.own a)) (ht:∀b xs,H b=some (.tup xs)->H' b=some (.tup xs)):ObjOk P w H' h' a o:=by
 induction o with
 |lst xs=>obtain⟨z,D,n,r,e⟩:=x;exact⟨z,D,n,r,k _ _ (.inl rfl) e⟩
 |tup xs =>
  obtain⟨z,D,r,⟨j,e,c⟩,nd⟩:=x;exact⟨z,D,r,⟨j,k _ _ (.inl rfl) e,c⟩,λo q=>by rw[k _ _ (.inl rfl) e] at q;cases q;exact nd _ e⟩
 |dK L=>obtain⟨z,y,vs,r,j,es,B,e,c⟩:=x;exact⟨z,y,vs,r,j,es,B,k _ _ (.inl rfl) e,c⟩
 |dT L =>
  obtain⟨z,y,xs,r,j,es,B,e,c⟩:=x;exact⟨z,y,xs,Paired.mapP r λp q z=>⟨z.1,ht _ _ z.2.1,z.2.2⟩,j,es,B,k _ _ (.inl rfl) e,c⟩
 |set S n=>obtain⟨j,es,B,t,e,c⟩:=x;exact⟨j,es,B,t,k _ _ (.inl rfl) e,c⟩
 |ins C U fs =>
  obtain⟨d,z,ne,e,J,⟨G,es,B,O,c⟩,r⟩:=x;exact⟨ho _ d,z,ne,k _ _ (.inl rfl) e,J,⟨G,es,B,k _ _ (.inr d) O,c⟩,r⟩
 |own y=>obtain⟨j,e⟩:=x;exact⟨j,k _ _ (.inl rfl) e⟩
 |xd fs=>obtain⟨J,⟨G,es,B,e,c⟩,r⟩:=x;exact⟨J,⟨G,es,B,k _ _ (.inl rfl) e,c⟩,r⟩
 |rng lo hi=>obtain⟨t,u,v,e⟩:=x;exact⟨t,u,v,k _ _ (.inl rfl) e⟩
 |frz j u N=>obtain⟨e,q⟩:=x;exact⟨k _ _ (.inl rfl) e,N q⟩
 |tbl ps =>
  have e:=x;exact k a _ (.inl rfl) e
 |met f y =>
  have e:=x;exact k a _ (.inl rfl) e
 |ext φ=>obtain⟨p,⟨o,e⟩,st⟩:=x;exact⟨st _ _ p λo q=>k _ _ (.inl rfl) q,⟨o,k _ _ (.inl rfl) e⟩,st⟩
theorem bJn{g:bd}:∀o,(g.push {cls:=.type "tuple",data:=.seq arr n}).get? g.objs.size=some o->o.dict=none:=λo e=>by
 rw[au _ rfl] at e;cases e;rfl
theorem HOk.lt(x:HOk P w H h)(e:H a=some o):a<h.objs.size:=(x a o e).lt
theorem HOk.fresh(x:HOk P w H h)(e:h.objs.size<=a):H a=none:=by
 cases q:H a with
 |none=>rfl
 |some u=>exact absurd (bB (x.lt q) e) (cT _)
theorem HOk.kept(x:HOk P w H h)(k:∀b u,h.get? b=some u->h'.get? b=some u):HOk P w H h':=λa o e =>
 (x a o e).stay (λb u _ q=>k b u q) (λ_ q=>q) λ_ _ q=>q
theorem HOk.laid(x:HOk P w H h)(k:∀b u,h.get? b=some u->h'.get? b=some u)(hp:h.objs.size<=a)(new:ObjOk P w (upd H a o) h' a o):HOk P w (upd H a o) h':=λb u e=>by
 have d:=x.fresh hp
 by_cases j:b=a
 ·subst j;rw[aQ9] at e;cases e;exact new
 ·rw[upd_ne j] at e;exact(x b u e).stay (λc v _ q=>k c v q) (λc q=>by rw[upd_ne (ne_of_none q d)];exact q) λc xs q=>by rw[upd_ne (ne_of_none q d)];exact q
end
def Rd(H:Hp)(a:Addr)(u:HO):Prop:=H a=some u\/∃o,H a=some (.frz o u)
theorem Rd.ok(r:Rd H a u)(x:HOk P w H h):ObjOk P w H h a u:=by
 rcases r with r|⟨o,r⟩
 ·exact x a u r
 ·obtain⟨_,q⟩:=x a _ r;exact q
def Mut:Option HO->Prop
 |some (.lst _)=>True
 |some (.dK _)=>True
 |some (.dT _)=>True
 |some (.set _ _)=>True
 |some (.ins _ _ _)=>True
 |some (.ext _)=>True
 |_=>False
section
variable{P:aA}{w:aO}{H:Hp}{h h':bd}{x e:Addr}{o':HO}
theorem HOk.write(ok:HOk P w H h)(mu:Mut (H x))(he:e=x\/H e=some (.own x))(k:∀b u,b≠e->h.get? b=some u->h'.get? b=some u)(heo:∃u,h'.get? e=some u)
  (new:ObjOk P w (upd H x o') h' x o'):HOk P w (upd H x o') h':=λb u q=>by
 have j:∀c y,H c=some (.own y)->c≠x:=λc y r z=>by subst z;rw[r] at mu;exact mu
 have ntup:∀c xs,H c=some (.tup xs)->c≠x:=λc xs r z=>by subst z;rw[r] at mu;exact mu
 by_cases D:b=x
 ·subst D;rw[aQ9] at q;cases q;exact new
 ·rw[upd_ne D] at q
  by_cases d:b=e
  ·have q':H b=some (.own x):=by
    rcases he with z|z
    ·exact absurd (d.trans z) D
    ·rw[d];exact z
   rw[q] at q';cases q';obtain⟨v,G⟩:=heo;exact⟨v,by rw[d];exact G⟩
  ·refine(ok b u q).stay (λc v B r=>k c v ?_ r) (λc r=>by rw[upd_ne (j c b r)];exact r) λc xs r=>by rw[upd_ne (ntup c xs r)];exact r
   rcases B with rfl|B
   ·exact d
   ·rintro rfl;rcases he with z|z
    ·exact j c b B z
    ·rw[B] at z;cases z;exact D rfl
end
structure Un(fs ex:List Addr)(H H':Hp)(h h':bd):Prop where
 keep:∀b o,h.get? b=some o->H b=none->b∉fs->b∉ex->h'.get? b=some o
 slot:∀b o,h.get? b=some o->H b=none->b∈fs->b∉ex->∃sl,h'.get? b=some {o with slots:=sl}
 free:∀b o,h.get? b=some o->H b=none->b∉ex->H' b=none
 there:∀b o,h.get? b=some o->b∉ex->∃o',h'.get? b=some o'
 tups:∀b xs,H b=some (.tup xs)->H' b=some (.tup xs)
 frzs:∀b o u,H b=some (.frz o u)->H' b=some (.frz o u)
 tbls:∀b ps,H b=some (.tbl ps)->∃more,H' b=some (.tbl (ps++more))
section
variable{fs fs' ex ex':List Addr}{H H1 H2:Hp}{h h1 h2 h':bd}{a x e:Addr}{o:HO}
theorem Un.any(u:Un fs ex H H1 h h1){b:Addr}{ob:Obj}(q:h.get? b=some ob)(n:H b=none)(hx:b∉ex):∃sl,h1.get? b=some {ob with slots:=sl}:=by
 by_cases d:b∈fs
 ·exact u.slot b ob q n d hx
 ·exact⟨ob.slots,u.keep b ob q n d hx⟩
theorem Un.kept(k:∀b u,h.get? b=some u->h'.get? b=some u):Un fs ex H H h h' :=
 ⟨λb d q _ _ _=>k b d q,λb d q _ _ _=>⟨d.slots,k b d q⟩,λ_ _ _ n _=>n,λb d q _=>⟨d,k b d q⟩,λ_ _ q=>q,λ_ _ _ q=>q,λ_ ps q=>⟨#[],by rw[q];simp⟩⟩
theorem Un.refl:Un fs ex H H h h:=Un.kept λ_ _ q=>q
theorem Un.laid(k:∀b u,h.get? b=some u->h'.get? b=some u)(hp:h.objs.size<=a)(hn:H a=none):Un fs ex H (upd H a o) h h' where
 keep:=λb u q _ _ _=>k b u q
 slot:=λb u q _ _ _=>⟨u.slots,k b u q⟩
 free:=λb u q n _=>by rw[upd_ne (aN (bB (aC q) hp))];exact n
 there:=λb u q _=>⟨u,k b u q⟩
 tups:=λb xs q=>by rw[upd_ne (ne_of_none q hn)];exact q
 frzs:=λb u xs q=>by rw[upd_ne (ne_of_none q hn)];exact q
 tbls:=λb ps q=>⟨#[],by rw[upd_ne (ne_of_none q hn),q];simp⟩
theorem Un.write(mu:Mut (H x))(he:e=x\/H e=some (.own x))(k:∀b u,b≠e->h.get? b=some u->h'.get? b=some u)(heo:∃u,h'.get? e=some u):Un fs ex H (upd H x o) h h':=by
 have j:∀b,H b=none->b≠x:=λb n z=>by subst z;rw[n] at mu;exact mu
 have B:∀b,H b=none->b≠e:=λb n z=>by
  subst z;rcases he with r|r
  ·exact j b n r
  ·rw[n] at r;cases r
 have hm:∀b u,H b=some u->¬ Mut (some u)->b≠x:=λb u q nm z=>by subst z;rw[q] at mu;exact nm mu
 refine⟨λb u q n _ _=>k b u (B b n) q,λb u q n _ _=>⟨u.slots,k b u (B b n) q⟩,λb u q n _=>by rw[upd_ne (j b n)];exact n,λb u q _=>?_,
  λb xs q=>by rw[upd_ne (hm b _ q λz=>z)];exact q,λb u xs q=>by rw[upd_ne (hm b _ q λz=>z)];exact q,λb ps q=>⟨#[],by rw[upd_ne (hm b _ q λz=>z),q];simp⟩⟩
 by_cases d:b=e
 ·subst d;exact heo
 ·exact⟨u,k b u d q⟩
end
def trk(h:bd)(H:Hp):List Addr:=(aI h.objs.size).filter λa=>(H a).isSome
def hidT(h:bd)(H:Hp):bd:=PySem.W.hideAll h (trk h H)
theorem dQf(h:bd)(H:Hp):(hidT h H).objs.size=h.objs.size:=PySem.W.hideAll_size _ _
theorem eQ2(e:h.get? b=some o)(n:H b=none):(hidT h H).get? b=some o :=
 PySem.W.hideAll_get _ e λhm=>by
  have q:=(ao.mp hm).2;rw[n] at q;simp at q
theorem eJg(e:(hidT h H).get? b=some o):h.get? b=some o/\H b=none:=by
 have d:=PySem.W.of_hideAll (trk h H) e;refine⟨d,?_⟩;cases q:H b with
 |none=>rfl
 |some x =>
  have hm:b∈trk h H:=ao.mpr ⟨aU.mpr (aC d),by simp[q]⟩
  have z:(hidT h H).get? b=none:=PySem.W.hideAll_none (trk h H) hm;rw[z] at e;cases e
structure Mod(K:ar)(mg:Str->Option ad)(base:bd):Prop where
 kin:K.In base
 glob:base.Ns aX mg
 blt:∃mb,base.Ns iz mb/\∀x:Str,x ≠ "__name__"->mb x=cG x
 nolimit:base.NoLimit
structure Cx where
 prog:aA
 w:aO
 K:ar
 mg:Str->Option ad
 base:bd
 A:aW
 N:List Str
 s₀:ai
 H₀:Hp
 env:Env
 outer:List Env
 stack:List Env
 ex:List Addr
 fn:Str->Bool
 calm:Bool
 pn:List (Addr×Obj)
 xe:ad->ai->Prop
def frs(l:List Env):List Addr:=l.filterMap (·.frame)
abbrev Cx.fs(X:Cx):List Addr:=frs X.outer
def Vis(sc:Scope)(x:Str):Prop:=sc.names.lookup x=some .local\/sc.names.lookup x=some .cell\/sc.names.lookup x=some .free
def Loc(sc:Scope)(x:Str):Prop:=sc.names.lookup x=some .local\/sc.names.lookup x=some .cell
def Look(env:Env)(h:bd)(m:Str->Option ad)(x:Str)(u:ad):Prop :=
 (env.kindOf x=some .local/\m x=some u)\/((env.kindOf x=some .cell\/env.kindOf x=some .free)/\∃c,env.cells.lookup x=some c/\h.IsCell c (some u))
structure Cx.Ok(X:Cx):Prop where
 mod:Mod X.K X.mg X.base
 kind:X.env.scope.kind=.function
 glob:X.env.globals=aX
 blt:X.env.builtins=iz
 above:X.s₀.heap.objs.size<=X.env.locals
 inj:∀x y c,X.env.cells.lookup x=some c->X.env.cells.lookup y=some c->x=y
 has:∀x,(X.env.kindOf x=some .cell\/X.env.kindOf x=some .free)->∃c,X.env.cells.lookup x=some c
 cab:∀x c,X.fn x=true->X.env.cells.lookup x=some c->X.s₀.heap.objs.size<=c
 hd:X.calm=true->X.A.handled=none
 frames:X.A.frames=some X.stack
 gd:X.A.guards=some []
 stk:X.stack=X.outer\/(X.stack=X.env::X.outer/\X.env.frame=some X.env.locals)
 exf:∀b∈X.ex,b≠X.env.locals/\∀x c,X.env.cells.lookup x=some c->c≠b
 bs:∀b o,X.base.get? b=some o->X.s₀.heap.get? b=some o/\X.H₀ b=none
 bsz:X.base.objs.size<=X.s₀.heap.objs.size
 noex:∀b o,X.base.get? b=some o->b∉X.ex
 exfs:∀b∈X.ex,b∉X.fs
 funs:X.s₀.heap.FunFrames X.base X.outer
 frf:∀b∈X.fs,X.H₀ b=none
structure Inv(X:Cx)(pins:List (Addr×Obj))(σ:List (Option V))(H:Hp)(s:ai):Prop where
 ok:X.Ok
 os:s.os=X.s₀.os
 bare:jH s.gens
 base:Un X.fs X.ex X.H₀ H X.s₀.heap s.heap
 loc:∃m,s.heap.Ns X.env.locals m/\∀(i:Nat) (x:Str) (v:V),X.N[i]?=some x->σ[i]?=some (some v)->Vis X.env.scope x->∃u,RelV v u/\Look X.env s.heap m x u
 cell:∀x c,X.env.cells.lookup x=some c->∃v,s.heap.IsCell c v
 free:H X.env.locals=none
 freeC:∀x c,X.env.cells.lookup x=some c->H c=none
 pin:∀p∈X.pn++pins,s.heap.get? p.1=some p.2/\H p.1=none/\p.1≠X.env.locals/\p.1∉X.fs/\∀v,p.2.data≠.cell v
 hok:HOk X.prog X.w H s.heap
 len:σ.length=X.N.length
section
variable{X:Cx}{pins:List (Addr×Obj)}{σ:List (Option V)}{H H':Hp}{s:ai}{h':bd}
theorem Cx.Ok.nofr(ok:X.Ok){b:Addr}{o:Obj}(e:X.base.get? b=some o):b∉X.fs:=λd=>by
 have:=(ok.funs.mem d).1
 rw[e] at this;cases this
theorem Inv.bs(I:Inv X pins σ H s):∀b o,X.base.get? b=some o->s.heap.get? b=some o/\H b=none:=λb o e =>
 ⟨I.base.keep b o (I.ok.bs b o e).1 (I.ok.bs b o e).2 (I.ok.nofr e) (I.ok.noex b o e),I.base.free b o (I.ok.bs b o e).1 (I.ok.bs b o e).2 (I.ok.noex b o e)⟩
theorem Inv.bk(I:Inv X pins σ H s):∀b o,X.base.get? b=some o->s.heap.get? b=some o:=λb o e=>(I.bs b o e).1
theorem Inv.mod(I:Inv X pins σ H s):Mod X.K X.mg X.base:=I.ok.mod
theorem Inv.kIn(I:Inv X pins σ H s):X.K.In s.heap:=I.ok.mod.kin.keeps I.bk
theorem Inv.nolimit(I:Inv X pins σ H s):s.heap.NoLimit:=I.ok.mod.nolimit.keeps I.bk
theorem Inv.lt(I:Inv X pins σ H s):X.env.locals<s.heap.objs.size:=let ⟨_,d,_⟩:=I.loc;d.lt
theorem Inv.sz(I:Inv X pins σ H s):X.s₀.heap.objs.size<=s.heap.objs.size:=aH I.ok.above (gk I.lt)
theorem Inv.nofs(I:Inv X pins σ H s){a:Addr}(h:s.heap.objs.size<=a):a∉X.fs:=λj=>by
 obtain⟨_,o,d,_⟩:=I.ok.funs.mem j;exact absurd (bB (aC d) (aH I.sz h)) (cT _)
theorem Inv.cne(I:Inv X pins σ H s):∀x c,X.env.cells.lookup x=some c->c≠X.env.locals:=λx c e z=>by
 obtain⟨v,o,ho,hd⟩:=I.cell x c e;obtain⟨m,⟨o',es,B,d,j,_⟩,_⟩:=I.loc;rw[z,d] at ho;cases ho;rw[j] at hd;cases hd
theorem Inv.funs(I:Inv X pins σ H s):s.heap.FunFrames X.base X.outer:=by
 have all:∀(l:List Env),(∀b∈frs l,b∈X.fs)->X.s₀.heap.FunFrames X.base l->s.heap.FunFrames X.base l:=by
  intro l
  induction l with
  |nil=>intro _ _;trivial
  |cons env r B =>
   intro hs hl;obtain⟨N,⟨L,o,hf,J,G,hd⟩,D⟩:=hl;have j:=hs L (by unfold frs;rw[ce,hf];exact aj)
   obtain⟨sl,e⟩:=I.base.slot L o G (I.ok.frf L j) j λz=>I.ok.exfs L z j;exact⟨N,⟨L,_,hf,J,e,hd⟩,B (λb d=>hs b (by unfold frs;rw[ce,hf];exact ak _ d)) D⟩
 exact all X.outer (λ_ d=>d) I.ok.funs
theorem Inv.stack(I:Inv X pins σ H s):s.heap.FunFrames X.base X.stack:=by
 rcases I.ok.stk with e|⟨e,hf⟩
 ·rw[e];exact I.funs
 ·rw[e];obtain⟨m,d,_⟩:=I.loc;refine .cons (by rw[I.ok.kind];decide) hf d ?_ I.funs
  exact bd.get?_none_of_le (aH I.ok.bsz I.ok.above)
theorem Inv.stkSub(I:Inv X pins σ H s):∀b∈frs X.stack,b∈X.env.locals::X.fs:=λb d=>by
 rcases I.ok.stk with e|⟨e,hf⟩
 ·rw[e] at d;exact ak _ d
 ·rw[e] at d;unfold frs at d;rw[ce,hf] at d;exact d
theorem Inv.stkFree(I:Inv X pins σ H s):∀b∈frs X.stack,H b=none:=λb d=>by
 rcases aw.mp (I.stkSub b d) with e|d
 ·rw[e];exact I.free
 ·obtain⟨_,o,j,_⟩:=I.ok.funs.mem d;exact I.base.free b o j (I.ok.frf b d) λz=>I.ok.exfs b z d
theorem Inv.step{ch:List Addr}(I:Inv X pins σ H s)
  (hch:∀b∈ch,(b∈X.ex\/X.s₀.heap.objs.size<=b)/\b≠X.env.locals/\(∀x c,X.env.cells.lookup x=some c->c≠b)/\∀p∈X.pn++pins,p.1≠b)
  (keep:∀b o,b≠X.env.locals->b∉X.fs->b∉ch->s.heap.get? b=some o->H b=none->h'.get? b=some o)
  (slot:∀b o,b≠X.env.locals->b∈X.fs->b∉ch->s.heap.get? b=some o->H b=none->∃sl,h'.get? b=some {o with slots:=sl}) (free:∀b o,b∉ch->s.heap.get? b=some o->H b=none->H' b=none)
  (there:∀b o,b∉ch->s.heap.get? b=some o->∃o',h'.get? b=some o')
  (tups:∀b xs,H b=some (.tup xs)->H' b=some (.tup xs)) (frzs:∀b o u,H b=some (.frz o u)->H' b=some (.frz o u)) (tbls:∀b ps,H b=some (.tbl ps)->∃more,H' b=some (.tbl (ps++more)))
  (ns:∀m,s.heap.Ns X.env.locals m->h'.Ns X.env.locals m) (hok:HOk X.prog X.w H' h') (hg:jH g') :
  Inv X pins σ H' {s with heap:=h',gens:=g',drawn:=d',toks:=t'}:=by
 have N:∀b o,X.s₀.heap.get? b=some o->b≠X.env.locals:=λb o e=>aN (bB (aC e) I.ok.above);have D:∀b o,X.s₀.heap.get? b=some o->b∉X.ex->b∉ch:=λb o e j J=>by
  rcases(hch b J).1 with z|z
  ·exact j z
  ·exact absurd (bB (aC e) z) (cT _)
 have cellK:∀x c,X.env.cells.lookup x=some c->∀v,s.heap.IsCell c v->h'.IsCell c v:=λx c e v ⟨o,L,hd⟩=>by
  have B:=λz=>(hch c z).2.2.1 x c e rfl
  by_cases hc:c∈X.fs
  ·obtain⟨sl,q⟩:=slot c o (I.cne x c e) hc B L (I.freeC x c e);exact⟨_,q,hd⟩
  ·exact⟨o,keep c o (I.cne x c e) hc B L (I.freeC x c e),hd⟩
 refine⟨I.ok,I.os,hg,⟨λb o e n J j=>?_,λb o e n J j=>?_,λb o e n j=>?_,λb o e j=>?_,λb xs e=>tups b xs (I.base.tups b xs e),λb o xs e=>frzs b o xs (I.base.frzs b o xs e),λb ps e=>?_⟩,?_,λx c e=>?_,?_,λx c e=>?_,λp Z=>?_,hok,I.len⟩
 ·exact keep b o (N b o e) J (D b o e j) (I.base.keep b o e n J j) (I.base.free b o e n j)
 ·obtain⟨sl,G⟩:=I.base.slot b o e n J j;obtain⟨U,O⟩:=slot b _ (N b o e) J (D b o e j) G (I.base.free b o e n j);exact⟨U,O⟩
 ·obtain⟨o',G⟩:=I.base.there b o e j;exact free b o' (D b o e j) G (I.base.free b o e n j)
 ·obtain⟨o',G⟩:=I.base.there b o e j;exact there b o' (D b o e j) G
 ·obtain⟨m1,G⟩:=I.base.tbls b ps e;obtain⟨m2,O⟩:=tbls b _ G;exact⟨m1++m2,by rw[O,Array.append_assoc]⟩
 ·obtain⟨m,hn,hl⟩:=I.loc;refine⟨m,ns m hn,λi x v G O e3=>?_⟩;obtain⟨u,r,l⟩:=hl i x v G O e3;refine⟨u,r,?_⟩;rcases l with l|⟨k,c,e,z⟩
  ·exact .inl l
  ·exact .inr ⟨k,c,e,cellK x c e _ z⟩
 ·obtain⟨v,z⟩:=I.cell x c e;exact⟨v,cellK x c e v z⟩
 ·obtain⟨m,⟨o,_,_,L,_⟩,_⟩:=I.loc;exact free _ o (λz=>(hch _ z).2.1 rfl) L I.free
 ·obtain⟨v,o,L,hd⟩:=I.cell x c e;exact free c o (λz=>(hch c z).2.2.1 x c e rfl) L (I.freeC x c e)
 ·obtain⟨e,n,ne,Y,d⟩:=I.pin p Z;have B:=λz=>(hch p.1 z).2.2.2 p Z rfl;exact⟨keep p.1 p.2 ne Y B e n,free p.1 p.2 B e n,ne,Y,d⟩
theorem Inv.un(I:Inv X pins σ H s)(u:Un X.fs [] H H' s.heap h')(hok:HOk X.prog X.w H' h'):Inv X pins σ H' {s with heap:=h',toks:=t'}:=by
 obtain⟨m,⟨o,es,N,D,r⟩,_⟩:=id I.loc;obtain⟨sl,J⟩:=u.any D I.free (by simp)
 exact I.step (ch:=[]) (λ_ z=>nomatch z) (λb o _ d _ e n=>u.keep b o e n d (by simp)) (λb o _ d _ e n=>u.slot b o e n d (by simp)) (λb o _ e n=>u.free b o e n (by simp)) (λb o _ e=>u.there b o e (by simp)) u.tups u.frzs u.tbls (λL hm=>by
  obtain⟨o',j,B,ho',G⟩:=hm;rw[D] at ho';cases ho';exact⟨_,j,B,J,G⟩) hok I.bare
theorem Inv.call(I:Inv X pins σ H s)(u:Un (frs X.stack) ch H H' s.heap h')(hok:HOk X.prog X.w H' h')(hg:jH g')
  (hch:∀b∈ch,(b∈X.ex\/X.s₀.heap.objs.size<=b)/\b≠X.env.locals/\(∀x c,X.env.cells.lookup x=some c->c≠b)/\∀p∈X.pn++pins,p.1≠b) :
  Inv X pins σ H' {s with heap:=h',gens:=g',drawn:=d',toks:=t'}:=by
 obtain⟨m,⟨o,es,O,G,r⟩,_⟩:=id I.loc;obtain⟨sl,j⟩:=u.any G I.free λz=>(hch _ z).2.1 rfl;exact I.step hch (λb o j L d e n=>u.keep b o e n (λz=>(aw.mp (I.stkSub b z)).elim j L) d) (λb o _ _ d e n=>u.any e n d) (λb o d e n=>u.free b o e n d) (λb o d e=>u.there b o e d) u.tups u.frzs u.tbls (λN hm=>by
  obtain⟨o',B,D,ho',J⟩:=hm;rw[G] at ho';cases ho';exact⟨_,B,D,j,J⟩) hok hg
theorem Inv.turned(I:Inv X pins σ H s)(k:∀b o,b≠it->s.heap.get? b=some o->h'.get? b=some o)(hn:H it=none)(hL:it≠X.env.locals)
  (h1:it∈X.ex\/X.s₀.heap.objs.size<=it) (h2:∀x c,X.env.cells.lookup x=some c->c≠it) (h3:∀p∈X.pn++pins,p.1≠it):Inv X pins σ H {s with heap:=h',toks:=t'}:=by
 have j:∀b u,H b=some u->b≠it:=λb u e z=>by rw[z,hn] at e;cases e
 refine I.step (ch:=[it]) (λb D=>?_) (λb o _ _ d e _=>k b o (λz=>d (by simp[z])) e) (λb o _ _ d e _=>⟨o.slots,k b o (λz=>d (by simp[z])) e⟩) (λ_ _ _ _ n=>n)
  (λb o d e=>⟨o,k b o (λz=>d (by simp[z])) e⟩) (λ_ _ e=>e) (λ_ _ _ e=>e) (λb ps e=>⟨#[],by rw[e];simp⟩) (λm hm=>?_) (λb u e=>?_) I.bare
 ·have e:b=it:=by simpa using D
  subst e;exact⟨h1,hL,h2,h3⟩
 ·obtain⟨o,es,G,B,r⟩:=hm;exact⟨o,es,G,k _ o (bX hL) B,r⟩
 ·refine(I.hok b u e).stay (λc v d q=>k c v ?_ q) (λ_ q=>q) λ_ _ q=>q;rcases d with z|z
  ·rw[z];exact j b u e
  ·exact j c _ z
theorem Inv.tok(I:Inv X pins σ H s)(t:Nat):Inv X pins σ H {s with toks:=t}:=I.un Un.refl I.hok
theorem Inv.kept(I:Inv X pins σ H s)(k:∀b u,s.heap.get? b=some u->h'.get? b=some u):Inv X pins σ H {s with heap:=h',toks:=t'}:=I.un (Un.kept k) (I.hok.kept k)
theorem Inv.laid{a:Addr}(I:Inv X pins σ H s)(k:∀b u,s.heap.get? b=some u->h'.get? b=some u)(hp:s.heap.objs.size<=a)(new:ObjOk X.prog X.w (upd H a o) h' a o) :
  Inv X pins σ (upd H a o) {s with heap:=h',toks:=t'}:=I.un (Un.laid k hp (I.hok.fresh hp)) (I.hok.laid k hp new)
theorem Inv.write(I:Inv X pins σ H s)(mu:Mut (H x))(he:e=x\/H e=some (.own x))(k:∀b u,b≠e->s.heap.get? b=some u->h'.get? b=some u)(heo:∃u,h'.get? e=some u)
  (new:ObjOk X.prog X.w (upd H x o) h' x o):Inv X pins σ (upd H x o) {s with heap:=h',toks:=t'}:=I.un (Un.write mu he k heo) (I.hok.write mu he k heo new)
theorem Inv.weak(I:Inv X pins σ H s)(hl:σ'.length=σ.length)(w:∀(i:Nat) v,σ'[i]?=some (some v)->σ[i]?=some (some v)):Inv X pins σ' H s :=
 ⟨I.ok,I.os,I.bare,I.base,let ⟨m,j,d⟩:=I.loc;⟨m,j,λi x v D B z=>d i x v D (w i v B) z⟩,I.cell,I.free,I.freeC,I.pin,I.hok,hl.trans I.len⟩
theorem Inv.pins_of(I:Inv X pins σ H s)(h:∀p∈pins',s.heap.get? p.1=some p.2/\H p.1=none/\p.1≠X.env.locals/\p.1∉X.fs/\∀v,p.2.data≠.cell v):Inv X pins' σ H s :=
 ⟨I.ok,I.os,I.bare,I.base,I.loc,I.cell,I.free,I.freeC,λp d=>(a6.mp d).elim (λz=>I.pin p (cm _ z)) (h p),I.hok,I.len⟩
theorem nodup_ix{N:List Str}(hN:N.Nodup){i j:Nat}{x:Str}(a:N[i]?=some x)(b:N[j]?=some x):i=j:=by
 obtain⟨h1,z⟩:=a9.mp a;obtain⟨h2,d⟩:=a9.mp b;exact(jW hN).mp (z.trans d.symm)
theorem bJo(I:Inv X pins σ H s)(hN:X.N.Nodup)(hi:X.N[i]?=some x)(hx:Loc X.env.scope x)(r:RelV v u)
  (h:∀s',Inv X pins (σ.set i (some v)) H s'->(∃a,dZ a s.heap s'.heap/\(a=X.env.locals\/X.env.cells.lookup x=some a))->Q () s') (hf:X.fn x=true\/X.env.scope.names.lookup x=some .local:=by first|exact .inl rfl|exact .inr rfl|assumption):aD M A (storeName X.env x u) Q E s:=by
 obtain⟨m,hn,hl⟩:=id I.loc;have U:(X.env.scope.kind ==.class||(X.env.scope.kind ==.module&&X.env.locals !=X.env.globals))=false:=by rw[I.ok.kind];rfl
 have hiσ:i<σ.length:=by rw[I.len];exact(a9.mp hi).1
 have cne:=I.cne;have tracked:∀{a:Addr}{h':bd},(∃o,s.heap.get? a=some o/\H a=none)->dZ a s.heap h'->HOk X.prog X.w H h':=λ{a h'} ha hs b ob e=>by
  obtain⟨_,_,B⟩:=ha;refine(I.hok b ob e).stay (λc w' hc q=>(hs.2 c ?_).trans q) (λ_ q=>q) λ_ _ q=>q;rintro rfl;rcases hc with rfl|hc
  ·rw[B] at e;cases e
  ·rw[B] at hc;cases hc
 rcases hx with hk|hk
 ·refine wpAny_storeName_local hk hn (λh' hn' hs=>?_) U;obtain⟨oL,_,_,hoL,_⟩:=id hn;refine h _ ⟨I.ok,I.os,I.bare,⟨λb o e n J hx=>?_,λb o e n J hx=>?_,I.base.free,λb o e hx=>?_,I.base.tups,I.base.frzs,I.base.tbls⟩,⟨_,hn',λj y v' e1 e2 e3=>?_⟩,λy c e=>?_,I.free,I.freeC,λp hp=>?_,tracked ⟨oL,hoL,I.free⟩ hs,by simpa using I.len⟩ ⟨_,hs,.inl rfl⟩
  ·exact(hs.2 b (aN (bB (aC e) I.ok.above))).trans (I.base.keep b o e n J hx)
  ·obtain⟨sl,e1⟩:=I.base.slot b o e n J hx;exact⟨sl,(hs.2 b (aN (bB (aC e) I.ok.above))).trans e1⟩
  ·obtain⟨o',e1⟩:=I.base.there b o e hx;exact⟨o',(hs.2 b (aN (bB (aC e) I.ok.above))).trans e1⟩
  ·by_cases D:j=i
   ·subst D;rw[hi] at e1;cases e1;rw[List.getElem?_set_self hiσ] at e2;cases e2;exact⟨u,r,.inl ⟨hk,by simp⟩⟩
   ·rw[gc (bX D)] at e2;obtain⟨u',r',q⟩:=hl j y v' e1 e2 e3;refine⟨u',r',?_⟩;rcases q with⟨k,e⟩|⟨k,c,e,z⟩
    ·refine .inl ⟨k,?_⟩
     have:y≠x:=λe=>D (nodup_ix hN e1 (e▸hi))
     simp[this,e]
    ·exact .inr ⟨k,c,e,z.sameBut hs (cne y c e)⟩
  ·obtain⟨w',z⟩:=I.cell y c e;exact⟨w',z.sameBut hs (cne y c e)⟩
  ·obtain⟨e,n,ne,nf,d⟩:=I.pin p hp;exact⟨(hs.2 p.1 ne).trans e,n,ne,nf,d⟩
 ·have G:X.fn x=true:=by
   rcases hf with z|z
   ·exact z
   ·rw[z] at hk;cases hk
  obtain⟨c,hc⟩:=I.ok.has x (.inl hk);obtain⟨w',z⟩:=I.cell x c hc;refine wpAny_storeName_cell I.ok.kind hk hc z (λh' Z hs=>?_);obtain⟨oc,O,L⟩:=id z;refine h {s with heap:=h'} ⟨I.ok,I.os,I.bare,⟨λb o e n J hx=>?_,λb o e n J hx=>?_,I.base.free,λb o e hx=>?_,I.base.tups,I.base.frzs,I.base.tbls⟩,⟨m,hn.sameBut hs (bX (cne x c hc)),λj y v' e1 e2 e3=>?_⟩,λy c' e=>?_,I.free,I.freeC,λp hp=>?_,tracked ⟨oc,O,I.freeC x c hc⟩ hs,by simpa using I.len⟩ ⟨c,hs,.inr hc⟩
  ·exact(hs.2 b (aN (bB (aC e) (I.ok.cab x c G hc)))).trans (I.base.keep b o e n J hx)
  ·obtain⟨sl,e1⟩:=I.base.slot b o e n J hx;exact⟨sl,(hs.2 b (aN (bB (aC e) (I.ok.cab x c G hc)))).trans e1⟩
  ·obtain⟨o',e1⟩:=I.base.there b o e hx;exact⟨o',(hs.2 b (aN (bB (aC e) (I.ok.cab x c G hc)))).trans e1⟩
  ·by_cases D:j=i
   ·subst D;rw[hi] at e1;cases e1;rw[List.getElem?_set_self hiσ] at e2;cases e2;exact⟨u,r,.inr ⟨.inl hk,c,hc,Z⟩⟩
   ·rw[gc (bX D)] at e2;obtain⟨u',r',q⟩:=hl j y v' e1 e2 e3;refine⟨u',r',?_⟩;rcases q with q|⟨k,c',e,z'⟩
    ·exact .inl q
    ·refine .inr ⟨k,c',e,z'.sameBut hs ?_⟩;rintro rfl;exact D (nodup_ix hN e1 (I.ok.inj _ _ _ e hc▸hi))
  ·by_cases Y:c'=c
   ·subst Y;exact⟨_,Z⟩
   ·obtain⟨w2,z2⟩:=I.cell y c' e;exact⟨w2,z2.sameBut hs Y⟩
  ·obtain⟨e,n,ne,nf,d⟩:=I.pin p hp;refine⟨(hs.2 p.1 ?_).trans e,n,ne,nf,d⟩;intro q;rw[q,O] at e;have q':=aQ e;exact d w' (by rw[<- q'];exact L)
theorem store_ok(I:Inv X pins σ H s)(hN:X.N.Nodup)(hi:X.N[i]?=some x)(hx:Loc X.env.scope x)(r:RelV v u)
  (h:∀s',Inv X pins (σ.set i (some v)) H s'->Q () s') (hf:X.fn x=true\/X.env.scope.names.lookup x=some .local:=by first|exact .inl rfl|exact .inr rfl|assumption):aD M A (storeName X.env x u) Q E s :=
 bJo I hN hi hx r (λs' d _=>h s' d) hf
theorem Inv.call'(I:Inv X pins σ H s)(ho:s'.os=s.os)(u:Un (frs X.stack) ch H H' s.heap s'.heap)(hok:HOk X.prog X.w H' s'.heap)(hg:jH s'.gens)
  (hch:∀b∈ch,(b∈X.ex\/X.s₀.heap.objs.size<=b)/\b≠X.env.locals/\(∀x c,X.env.cells.lookup x=some c->c≠b)/\∀p∈X.pn++pins,p.1≠b):Inv X pins σ H' s':=by
 obtain⟨h',g',d',t',o'⟩:=s';have e:=ho;subst e;exact I.call u hok hg hch
end
abbrev XK:=ad->Option Addr->Hp->Prop
abbrev St:=List (Option V)
abbrev VK:=V->Hp->Prop
abbrev TE:=St->Hp->VK->Prop
abbrev TT:=St->Hp->(Bool->Hp->Prop)->Prop
abbrev TA:=St->Hp->(List V->Hp->Prop)->Prop
structure Ends where
 nx:St->Hp->Prop
 rt:VK
 bk:St->Hp->Prop:=λ_ _=>False
 ct:St->Hp->Prop:=λ_ _=>False
abbrev TS:=Ends->St->Hp->Prop
def EP(X:Cx)(pins:List (Addr×Obj))(σ:St)(Q:VK)(u:ad)(s':ai):Prop:=∃v H',Inv X pins σ H' s'/\RelV v u/\Q v H'
def TP(X:Cx)(pins:List (Addr×Obj))(σ:St)(Q:Bool->Hp->Prop)(b:Bool)(s':ai):Prop:=∃H',Inv X pins σ H' s'/\Q b H'
def AP(X:Cx)(pins:List (Addr×Obj))(σ:St)(Q:List V->Hp->Prop)(us:List ad)(s':ai):Prop:=∃vs H',Inv X pins σ H' s'/\Vals vs us/\Q vs H'
def SP(X:Cx)(pins:List (Addr×Obj))(D:Ends)(f:Flow)(s':ai):Prop :=
 match f with
 |.next=>∃σ' H',Inv X pins σ' H' s'/\D.nx σ' H'
 |.brk=>∃σ' H',Inv X pins σ' H' s'/\D.bk σ' H'
 |.cont=>∃σ' H',Inv X pins σ' H' s'/\D.ct σ' H'
 |.ret u=>∃v σ' H',Inv X pins σ' H' s'/\RelV v u/\D.rt v H'
def PE(X:Cx)(e:Expr)(t:TE):Prop :=
 ∀(pins:List (Addr×Obj)) (s:ai) (σ:St) (H:Hp) (Q:VK),Inv X pins σ H s->t σ H Q->aD (aE X.prog X.w) X.A (eval e X.env) (EP X pins σ Q) X.xe s
def PT(X:Cx)(e:Expr)(t:TT):Prop :=
 ∀(pins:List (Addr×Obj)) (s:ai) (σ:St) (H:Hp) (Q:Bool->Hp->Prop),Inv X pins σ H s->t σ H Q->aD (aE X.prog X.w) X.A (isTrue e X.env (eval e X.env)) (TP X pins σ Q) X.xe s
def PW(X:Cx)(e:Expr)(t:TT):Prop :=
 ∀(whole:Sem ad) (pins:List (Addr×Obj)) (s:ai) (σ:St) (H:Hp) (Q:Bool->Hp->Prop),Inv X pins σ H s->t σ H Q->aD (aE X.prog X.w) X.A (isTrue e X.env whole) (TP X pins σ Q) X.xe s
theorem PW.pt(h:PW X e t):PT X e t:=h _
def PA(X:Cx)(es:List Expr)(t:TA):Prop :=
 ∀(pos:Pos) (pins:List (Addr×Obj)) (s:ai) (σ:St) (H:Hp) (Q:List V->Hp->Prop),Inv X pins σ H s->t σ H Q->aD (aE X.prog X.w) X.A (spliced (cC pos (az es X.env))) (AP X pins σ Q) X.xe s
def PS(X:Cx)(st:Stmt)(t:TS):Prop :=
 ∀(pins:List (Addr×Obj)) (s:ai) (σ:St) (H:Hp) (D:Ends),Inv X pins σ H s->t D σ H->aD (aE X.prog X.w) X.A (exec st X.env) (SP X pins D) X.xe s
def PSs(X:Cx)(st:List Stmt)(t:TS):Prop :=
 ∀(pins:List (Addr×Obj)) (s:ai) (σ:St) (H:Hp) (D:Ends),Inv X pins σ H s->t D σ H->aD (aE X.prog X.w) X.A (execs st X.env) (SP X pins D) X.xe s
theorem thn{t:Sem α}{Q Q':α->ai->Prop}(h:aD M A t Q E s)(hQ:∀a s,Q a s->Q' a s):aD M A t Q' E s:=cO h hQ λ_ _ x=>x
section
variable{X:Cx}
def tVar(i:Nat):TE:=fun σ H Q=>∃v,σ[i]?=some (some v)/\Q v H
def tC(v:V):TE:=λ_ H Q=>Q v H
theorem fJ4{pos:Pos}(hN:X.N[i]?=some x)(hv:Vis X.env.scope x)(hd:(x == "__debug__")=false:=by decide)(hcd:(x == "__classdict__")=false:=by decide):PE X (.Name x pos) (tVar i):=by
 intro pins s σ H Q I h;obtain⟨v,e,h⟩:=h;obtain⟨m,B,hl⟩:=I.loc;obtain⟨u,r,l⟩:=hl i x v hN e hv;have fin:EP X pins σ Q u s:=⟨v,H,I,r,h⟩;rcases l with⟨j,hm⟩|⟨j,c,z,d⟩
 ·exact gQ (eW I.ok.kind j B hm fin) hd
 ·rcases j with j|j
  ·exact gQ (i7 I.ok.kind j z d fin) hd
  ·exact gQ (wpAny_loadName_free I.ok.kind j z d fin hcd) hd
theorem eX6:PE X (.Constant (.int i) j pos) (tC (.int i)):=λ_ _ _ H _ I h=>wpAny_Constant_int ⟨.int i,H,I.tok _,⟨_,rfl⟩,h⟩
theorem gJ0:PE X (.Constant (.bool b) j pos) (tC (.bl b)):=λ_ _ _ H _ I h=>Constant_bool ⟨.bl b,H,I,rfl,h⟩
theorem fJ5:PE X (.Constant .none j pos) (tC .non):=λ_ _ _ H _ I h=>Constant_none ⟨.non,H,I,rfl,h⟩
theorem fJ6:PE X (.Constant (.str x) j pos) (tC (.str x)):=λ_ _ _ H _ I h=>Calls.Constant_str ⟨.str x,H,I.tok _,⟨_,rfl⟩,h⟩
def Gl(X:Cx)(x:Str):Prop:=X.env.kindOf x=some .globalImplicit
theorem ld_glob{σ:St}(I:Inv X pins σ H s)(hg:Gl X x)(hm:X.mg x=some u)(h:Q u s)
  (hd:(x == "__debug__")=false:=by decide):aD (aE X.prog X.w) X.A (eval (.Name x pos) X.env) Q E s :=
 gf I.ok.kind hg (Calls.loadGlobal_global (by rw[I.ok.glob];exact I.mod.glob.keeps I.bk) hm h) hd
theorem ld_blt{E:ad->ai->Prop}{σ:St}{pos:Pos}(I:Inv X pins σ H s)(hg:Gl X x)(hm:X.mg x=none)(hv:cG x=some u)(h:Q u s)
  (hn:x ≠ "__name__":=by decide) (hd:(x == "__debug__")=false:=by decide):aD (aE X.prog X.w) X.A (eval (.Name x pos) X.env) Q E s:=by
 obtain⟨mb,h1,h2⟩:=I.mod.blt;exact gf I.ok.kind hg (jM (by rw[I.ok.glob];exact I.mod.glob.keeps I.bk) hm (by rw[I.ok.blt];exact h1.keeps I.bk) ((h2 x hn).trans hv) h) hd
variable{a b:Expr}{ta tb:TE}{pos:Pos}
variable{tA tB':TT}{rest:List Expr}
def tAnd(t u:TT):TT:=fun σ H Q=>t σ H λc H1=>if c=true then u σ H1 Q else Q false H1
def tOr(t u:TT):TT:=fun σ H Q=>t σ H λc H1=>if c=true then Q true H1 else u σ H1 Q
def tNot(t:TT):TT:=fun σ H Q=>t σ H λc H1=>Q (!c) H1
theorem eJh(ha:PT X a tA):PW X (.BoolOp .And [a] pos) tA:=by
 intro d pins s σ H Q I h;refine isTrue_and (thn (ha pins s σ H Q I h) λc s1 e=>?_);cases c with
 |true=>exact isTrue_and_nil e
 |false=>exact e
theorem fJ7(ha:PT X a tA):PW X (.BoolOp .Or [a] pos) tA:=by
 intro d pins s σ H Q I h;refine isTrue_or (thn (ha pins s σ H Q I h) λc s1 e=>?_);cases c with
 |false=>exact isTrue_or_nil e
 |true=>exact e
theorem fJ8(ha:PT X a tA)(hb:PW X (.BoolOp .And (b::rest) pos) tB'):PW X (.BoolOp .And (a::b::rest) pos) (tAnd tA tB'):=by
 intro z pins s σ H Q I h;refine isTrue_and (thn (ha pins s σ H _ I h) λc s1 ⟨H1,j,d⟩=>?_);cases c with
 |true=>exact hb z pins s1 σ H1 Q j d
 |false=>exact⟨H1,j,d⟩
theorem gJ1(ha:PT X a tA)(hb:PW X (.BoolOp .Or (b::rest) pos) tB'):PW X (.BoolOp .Or (a::b::rest) pos) (tOr tA tB'):=by
 intro z pins s σ H Q I h;refine isTrue_or (thn (ha pins s σ H _ I h) λc s1 ⟨H1,j,d⟩=>?_);cases c with
 |true=>exact⟨H1,j,d⟩
 |false=>exact hb z pins s1 σ H1 Q j d
theorem fJ9(ha:PT X a tA):PT X (.UnaryOp .Not a pos) (tNot tA):=by
 intro pins s σ H Q I h;exact isTrue_not (ha pins s σ H (λc H1=>Q (!c) H1) I h)
def gJ2(ta tb:TE):TE:=fun σ H Q=>ta σ H λx H1=>∃c,x=.bl c/\if c=true then tb σ H1 Q else Q (.bl false) H1
def tOrV(ta tb:TE):TE:=fun σ H Q=>ta σ H λx H1=>∃c,x=.bl c/\if c=true then Q (.bl true) H1 else tb σ H1 Q
theorem fJa(h:PE X a t):PE X (.BoolOp op [a] pos) t:=λpins s σ H Q I hw=>BoolOp_one (h pins s σ H Q I hw)
theorem fJb(ha:PE X a ta)(hb:PE X (.BoolOp .And (b::rest) pos) tb):PE X (.BoolOp .And (a::b::rest) pos) (gJ2 ta tb):=by
 intro pins s σ H Q I h;refine BoolOp_and (thn (ha pins s σ H _ I h) λv s1 ⟨x,H1,j,r1,d⟩=>?_);obtain⟨c,rfl,d⟩:=d;cases r1;refine cJ ?_;cases c with
 |true=>exact hb pins s1 σ H1 Q j d
 |false=>exact⟨.bl false,H1,j,rfl,d⟩
theorem gJ3(ha:PE X a ta)(hb:PE X (.BoolOp .Or (b::rest) pos) tb):PE X (.BoolOp .Or (a::b::rest) pos) (tOrV ta tb):=by
 intro pins s σ H Q I h;refine BoolOp_or (thn (ha pins s σ H _ I h) λv s1 ⟨x,H1,j,r1,d⟩=>?_);obtain⟨c,rfl,d⟩:=d;cases r1;refine cJ ?_;cases c with
 |false=>exact hb pins s1 σ H1 Q j d
 |true=>exact⟨.bl true,H1,j,rfl,d⟩
def tIf(t:TT)(ta tb:TE):TE:=fun σ H Q=>t σ H λc H1=>if c=true then ta σ H1 Q else tb σ H1 Q
theorem eQ3(hc:PT X c tA)(ha:PE X a ta)(hb:PE X b tb):PE X (.IfExp c a b pos) (tIf tA ta tb):=by
 intro pins s σ H Q I h;refine wpAny_IfExp (thn (hc pins s σ H _ I h) λd s1 ⟨H1,z,j⟩=>?_);cases d with
 |true=>exact ha pins s1 σ H1 Q z j
 |false=>exact hb pins s1 σ H1 Q z j
end
def SqL(K:ar)(H:Hp)(a:Addr)(xs:List V):Prop :=
 Rd H a (.lst xs) \/
  ∃(o:Obj) (its:Array ad) (n:Nat),K.lookup a=some o/\o.cls=.type "list"/\o.dict=none/\o.data=.seq its n/\its.size<=sizeLine/\Vals xs its.toList
def SqT(K:ar)(H:Hp)(a:Addr)(xs:List V):Prop :=
 Rd H a (.tup xs) \/
  ∃(o:Obj) (its:Array ad) (n:Nat),K.lookup a=some o/\o.cls=.type "tuple"/\o.dict=none/\o.data=.seq its n/\its.size<=sizeLine/\Vals xs its.toList
def absV:ad->Option V
 |.none=>some .non
 |.bool b=>some (.bl b)
 |.int i _=>some (.int i)
 |.str x _=>some (.str x)
 |.bytes b _=>some (.byt b)
 |.float b _=>some (.flt b)
 |.ref a=>some (.ref a)
 |.type n=>some (.ty n)
 |_=>none
theorem RelV.abs(r:RelV x u):absV u=some x:=by
 cases x with
 |non=>cases r;rfl
 |bl _=>cases r;rfl
 |int _=>obtain⟨t,rfl⟩:=r;rfl
 |str _=>obtain⟨t,rfl⟩:=r;rfl
 |byt _=>obtain⟨t,rfl⟩:=r;rfl
 |flt _=>obtain⟨t,rfl⟩:=r;rfl
 |ref _=>cases r;rfl
 |ty _=>cases r;rfl
theorem RelV.inj(r:RelV x u)(q:RelV y u):x=y:=aQ (r.abs.symm.trans q.abs)
theorem Vals.inj:∀{xs ys:List V}{us:List ad},Vals xs us->Vals ys us->xs=ys
 |_,_,_,.nil,.nil=>rfl
 |_,_,_,.cons r t,.cons j d=>by rw[r.inj j,Vals.inj t d]
section
variable{X:Cx}{pins:List (Addr×Obj)}{σ:St}{H:Hp}{s:ai}{a:Addr}{xs ys:List V}
theorem SqL.of{K:ar}(h:H a=some (.lst xs)):SqL K H a xs:=.inl (.inl h)
theorem Inv.list(I:Inv X pins σ H s)(h:SqL X.K H a xs):∃its:List ad,Vals xs its/\PlainL s.heap a its.toArray/\xs.length<=sizeLine:=by
 rcases h with h|⟨o,its,n,d,j,hd,hs,B,r⟩
 ·obtain⟨z,its,n,r,e⟩:=h.ok I.hok;exact⟨its,r,⟨_,n,e,rfl,rfl,rfl⟩,z⟩
 ·refine⟨its.toList,r,⟨o,n,I.kIn a o d,j,hd,by simpa using hs⟩,?_⟩
  have e:=r.length;simp only[aT] at e;lia
theorem Inv.tuple(I:Inv X pins σ H s)(h:SqT X.K H a xs):∃its:List ad,Vals xs its/\gV s.heap a its.toArray/\xs.length<=sizeLine:=by
 rcases h with h|⟨o,its,n,d,j,_,hs,B,r⟩
 ·obtain⟨z,its,r,p,_⟩:=h.ok I.hok;exact⟨its,r,p,z⟩
 ·refine⟨its.toList,r,⟨o,I.kIn a o d,j,n,by simpa using hs⟩,?_⟩
  have e:=r.length;simp only[aT] at e;lia
theorem Inv.list_inj(I:Inv X pins σ H s)(h:SqL X.K H a xs)(h':SqL X.K H a ys):xs=ys:=by
 obtain⟨j,r,⟨o,n,e,_,_,d⟩,_⟩:=I.list h;obtain⟨its',B,⟨o',G,e',_,_,z⟩,_⟩:=I.list h';rw[e] at e';cases e';rw[d] at z;injection z with D _
 have:j=its':=by simpa using congrArg Array.toList D
 subst this;exact r.inj B
theorem Inv.tuple_inj(I:Inv X pins σ H s)(h:SqT X.K H a xs)(h':SqT X.K H a ys):xs=ys:=by
 obtain⟨j,r,⟨o,e,_,n,d⟩,_⟩:=I.tuple h;obtain⟨its',B,⟨o',e',_,G,z⟩,_⟩:=I.tuple h';rw[e] at e';cases e';rw[d] at z;injection z with D _
 have:j=its':=by simpa using congrArg Array.toList D
 subst this;exact r.inj B
end
abbrev Cx.wish(X:Cx)(E:ad->ai->Prop):Cx:={X with xe:=E}
abbrev Cx.nox(X:Cx):Cx:=X.wish λ_ _=>False
theorem Cx.Ok.wish{X:Cx}(ok:X.Ok)(E:ad->ai->Prop):(X.wish E).Ok :=
 ⟨ok.mod,ok.kind,ok.glob,ok.blt,ok.above,ok.inj,ok.has,ok.cab,ok.hd,ok.frames,ok.gd,ok.stk,ok.exf,ok.bs,ok.bsz,ok.noex,ok.exfs,ok.funs,ok.frf⟩
theorem Cx.Ok.unwish{X:Cx}(ok:(X.wish E).Ok):X.Ok :=
 ⟨ok.mod,ok.kind,ok.glob,ok.blt,ok.above,ok.inj,ok.has,ok.cab,ok.hd,ok.frames,ok.gd,ok.stk,ok.exf,ok.bs,ok.bsz,ok.noex,ok.exfs,ok.funs,ok.frf⟩
section
variable{X:Cx}{pins:List (Addr×Obj)}{σ:St}{H:Hp}{s:ai}{E:ad->ai->Prop}
theorem Inv.wish(I:Inv X pins σ H s)(E:ad->ai->Prop):Inv (X.wish E) pins σ H s:=⟨I.ok.wish E,I.os,I.bare,I.base,I.loc,I.cell,I.free,I.freeC,I.pin,I.hok,I.len⟩
theorem Inv.unwish(I:Inv (X.wish E) pins σ H s):Inv X pins σ H s:=⟨I.ok.unwish,I.os,I.bare,I.base,I.loc,I.cell,I.free,I.freeC,I.pin,I.hok,I.len⟩
theorem SP.unwish(h:SP (X.wish E) pins D f s'):SP X pins D f s':=by
 cases f with
 |next=>obtain⟨σ',H',I,q⟩:=h;exact⟨σ',H',I.unwish,q⟩
 |brk=>obtain⟨σ',H',I,q⟩:=h;exact⟨σ',H',I.unwish,q⟩
 |cont=>obtain⟨σ',H',I,q⟩:=h;exact⟨σ',H',I.unwish,q⟩
 |ret u=>obtain⟨v,σ',H',I,r,q⟩:=h;exact⟨v,σ',H',I.unwish,r,q⟩
theorem PSs.nox{st:List Stmt}(h:PSs X.nox st t):PSs X st t:=λpins s σ H D I hw =>
 cO (h pins s σ H D (I.wish _) hw) (λ_ _ q=>q.unwish) λ_ _ z=>dU z
end
section
variable{X:Cx}{st:Stmt}{rest:List Stmt}{t u:TS}{e:Expr}{te:TE}{pos:Pos}
def gJ4:TS:=λD σ H=>D.nx σ H
def tSeq(t u:TS):TS:=λD σ H=>t {D with nx:=u D} σ H
theorem eJi:PSs X [] gJ4:=λ_ _ σ H _ I h=>iV ⟨σ,H,I,h⟩
theorem cZt(h1:PS X st t)(h2:PSs X rest u):PSs X (st::rest) (tSeq t u):=by
 intro pins s σ H D I h;refine wpAny_execs_cons (thn (h1 pins s σ H {D with nx:=u D} I h) λf s1 q=>?_)
 cases f with
 |next =>
  obtain⟨σ',H',d,q⟩:=q;exact h2 pins s1 σ' H' D d q
 |ret v=>exact q
 |brk=>exact q
 |cont=>exact q
theorem eJj(h1:PS X st t):PSs X [st] t:=by
 intro pins s σ H D I h;refine wpAny_execs_cons (thn (h1 pins s σ H D I h) λf s1 q=>?_);cases f with
 |next=>exact iV q
 |ret v=>exact q
 |brk=>exact q
 |cont=>exact q
theorem Inv.quiet{σ:St}(I:Inv X pins σ H s):interactive X.env=false:=by simp[interactive,I.ok.kind]
def gJ5(te:TE):TS:=λD σ H=>te σ H λ_ H1=>D.nx σ H1
theorem eJk(he:PE X e te)(hs:iA e none pos.line X.env=pure false:=by rfl):PS X (.Expr e pos) (gJ5 te):=by
 intro pins s σ H D I h;exact wpAny_Expr_any (thn (he pins s σ H _ I h) λv s1 ⟨x,H1,j,z,d⟩=>⟨σ,H1,j,d⟩) I.quiet hs
def tRet(te:TE):TS:=λD σ H=>te σ H D.rt
theorem fJc(he:PE X e te):PS X (.Return (some e) pos) (tRet te):=by
 intro pins s σ H D I h;exact wpAny_Return_some (thn (he pins s σ H _ I h) λv s1 ⟨x,H1,z,d,j⟩=>⟨x,σ,H1,z,d,j⟩)
def tIfS(c:TT)(t u:TS):TS:=λD σ H=>c σ H λb H1=>if b=true then t D σ H1 else u D σ H1
theorem gJ6(hc:PT X c tc)(ha:PSs X a t)(hb:PSs X b u):PS X (.If c a b pos) (tIfS tc t u):=by
 intro pins s σ H D I h;refine wpAny_If (thn (hc pins s σ H _ I h) λd s1 ⟨H1,z,j⟩=>?_);cases d with
 |true=>exact ha pins s1 σ H1 D z j
 |false=>exact hb pins s1 σ H1 D z j
end
abbrev TG:=V->St->Hp->(St->Hp->Prop)->Prop
abbrev TGs:=List V->St->Hp->(St->Hp->Prop)->Prop
def PG(X:Cx)(target:Expr)(t:TG):Prop :=
 ∀(pins:List (Addr×Obj)) (s:ai) (σ:St) (H:Hp) (v:V) (u:ad) (Q:St->Hp->Prop),Inv X pins σ H s->RelV v u->t v σ H Q ->
  aD (aE X.prog X.w) X.A (jN target X.env u) (λ_ s'=>∃σ' H',Inv X pins σ' H' s'/\Q σ' H') X.xe s
def PGs(X:Cx)(ts:List Expr)(t:TGs):Prop :=
 ∀(pins:List (Addr×Obj)) (s:ai) (σ:St) (H:Hp) (vs:List V) (us:List ad) (Q:St->Hp->Prop),Inv X pins σ H s->Vals vs us->t vs σ H Q ->
  aD (aE X.prog X.w) X.A (assignInOrder ((fk ts X.env).map (·.2)) us) (λ_ s'=>∃σ' H',Inv X pins σ' H' s'/\Q σ' H') X.xe s
abbrev TSet:=V->V->V->Hp->(Hp->Prop)->Prop
def PSet(X:Cx)(t:TSet):Prop :=
 ∀(pins:List (Addr×Obj)) (s:ai) (σ:St) (H:Hp) (o i v:V) (ov iv u:ad) (Q:Hp->Prop),Inv X pins σ H s->RelV o ov->RelV i iv->RelV v u->t o i v H Q ->
  aD (aE X.prog X.w) X.A (setItem ov iv u) (λ_ s'=>∃H',Inv X pins σ H' s'/\Q H') X.xe s
abbrev TIp:=V->V->Hp->VK->Prop
def PIp(X:Cx)(op:Operator)(t:TIp):Prop :=
 ∀(pins:List (Addr×Obj)) (s:ai) (σ:St) (H:Hp) (x y:V) (v u:ad) (Q:VK),Inv X pins σ H s->RelV x v->RelV y u->t x y H Q ->
  aD (aE X.prog X.w) X.A (inplaceOp op v u) (EP X pins σ Q) X.xe s
section
variable{X:Cx}{pos:Pos}
def cQq(i:Nat):TG:=λv σ H Q=>Q (σ.set i (some v)) H
theorem aQa(hN:X.N.Nodup)(hi:X.N[i]?=some x)(hx:Loc X.env.scope x)(hf:X.fn x=true\/X.env.scope.names.lookup x=some .local:=by first|exact .inl rfl|exact .inr rfl|assumption):PG X (.Name x pos) (cQq i):=by
 intro pins s σ H v u Q I r h;exact wpAny_assign_Name (store_ok I hN hi hx r (λs' d=>⟨_,H,d,h⟩) hf)
def gNil:TGs:=λvs σ H Q=>vs=[]/\Q σ H
def eJl(t:TG)(u:TGs):TGs:=λvs σ H Q=>∃v r,vs=v::r/\t v σ H fun σ' H'=>u r σ' H' Q
theorem dQg:PGs X [] gNil:=by
 intro pins s σ H vs us Q I r h;obtain⟨e,h⟩:=h;subst e;cases r;exact assignInOrder_nil ⟨σ,H,I,h⟩
theorem bXg{e:Expr}{es:List Expr}{t:TG}{u:TGs}(h1:PG X e t)(h2:PGs X es u)
  (hs:(fk (e::es) X.env).map (·.2)=jN e X.env::(fk es X.env).map (·.2):=by rfl):PGs X (e::es) (eJl t u):=by
 intro pins s σ H vs us Q I r h;obtain⟨v,D,z,h⟩:=h;subst z;cases r with
 |cons r d =>
  rw[hs];refine assignInOrder_cons (thn (h1 pins s σ H _ _ _ I r h) λ_ s1 ⟨σ1,H1,B,j⟩=>?_);exact h2 pins s1 σ1 H1 _ _ Q B d j
def gTup(K:ar)(n:Nat)(t:TGs):TG:=λv σ H Q=>∃a xs,v=.ref a/\SqT K H a xs/\xs.length=n/\t xs σ H Q
theorem eX7{es:List Expr}{k:Nat}{t:TGs}{n:Nat}(hc:X.calm=true)(h:PGs X es t)
  (hn:(fk es X.env).length=n:=by rfl) (hst:(fk es X.env).findIdx? (·.1)=none:=by rfl):PG X (.Tuple es k pos) (gTup X.K n t):=by
 intro pins s σ H v u Q I r hw;obtain⟨a,xs,G,D,hl,hw⟩:=hw;subst G;cases r;obtain⟨j,d,B,L⟩:=I.tuple D;refine assign_Tuple_tuple (I.ok.hd hc) B (by simp[hn,<- hl,d.length]) hst λh' z=>?_
 have J:Inv X pins σ H {s with heap:=h'}:=I.kept λb o e=>z b o (aN (aC e)) e
 exact h pins _ σ H xs _ Q J (by simpa using d) hw
def gSub(to ti:TE)(t:TSet):TG:=λv σ H Q=>to σ H λo H1=>ti σ H1 λi H2=>t o i v H2 λH3=>Q σ H3
theorem fJd{o i:Expr}{to ti:TE}{t:TSet}(ho:PE X o to)(hi:PE X i ti)(hs:PSet X t)
  (ha:∀ v,jN (.Subscript o i pos) X.env v=(do
   let ov <- fZ [v] (eval o X.env)
   let iv <- fZ [v,ov] (eval i X.env)
   gn pos
   fZ [v,ov,iv] (setItem ov iv v)
   release [v,ov,iv] []):=by intro _;rfl):PG X (.Subscript o i pos) (gSub to ti t):=by
 intro pins s σ H v u Q I r h;rw[ha];refine aa (bF (thn (ho pins s σ H _ I h) λov s1 ⟨x,H1,L,j,D⟩=>?_));refine aa (bF (thn (hi pins s1 σ H1 _ L D) λiv s2 ⟨y,H2,J,d,B⟩=>?_));refine aa (fW (aa (bF (thn (hs pins s2 σ H2 x y v ov iv u _ J j d r B) λ_ s3 ⟨N,G,z⟩=>?_))));exact wpAny_release ⟨σ,N,G,z⟩
def tAsg(te:TE)(g:TG):TS:=λD σ H=>te σ H λx H1=>g x σ H1 D.nx
theorem fJe{tg e:Expr}{te:TE}{g:TG}(he:PE X e te)(hg:PG X tg g)(hs:swapsWithSole [tg] e pos.line X.env=pure false:=by rfl)(hw:swappedStores [tg] e X.env=pure none:=by rfl)
  (h1:(fk [tg] X.env).map (·.2)=[jN tg X.env]:=by rfl):PS X (.Assign [tg] e pos) (tAsg te g):=by
 intro pins s σ H D I h;refine wpAny_Assign_stores (thn (he pins s σ H _ I h) λv s1 ⟨x,H1,z,d,j⟩=>?_) hs hw;rw[h1];exact thn (hg pins s1 σ H1 x v _ z d j) λ_ s2 q=>q
theorem fJf(hN:X.N.Nodup)(hi:X.N[i]?=some x)(hx:Loc X.env.scope x)(he:PE X e te)(hs:iA e (some (.Name x pos')) pos.line X.env=pure false:=by rfl)(hf:X.fn x=true\/X.env.scope.names.lookup x=some .local:=by first|exact .inl rfl|exact .inr rfl|assumption) :
  PS X (.Assign [.Name x pos'] e pos) (tAsg te (cQq i)):=by
 intro pins s σ H D I h;refine wpAny_Assign_Name (thn (he pins s σ H _ I h) λv s1 ⟨y,H1,B,d,j⟩=>?_) hs;exact store_ok B hN hi hx d (λs2 z=>⟨_,H1,z,j⟩) hf
def tAug(i:Nat)(te:TE)(ti:TIp):TS:=λD σ H=>∃x,σ[i]?=some (some x)/\te σ H λy H1=>ti x y H1 λz H2=>D.nx (σ.set i (some z)) H2
theorem fJg(hN:X.N.Nodup)(hi:X.N[i]?=some x)(hx:Loc X.env.scope x)(he:PE X e te)(ho:PIp X op ti)(hf:X.fn x=true\/X.env.scope.names.lookup x=some .local:=by first|exact .inl rfl|exact .inr rfl|assumption) :
  PS X (.AugAssign (.Name x pos') op e pos) (tAug i te ti):=by
 intro pins s σ H D I h;obtain⟨v,e1,h⟩:=h;obtain⟨m,Z,hl⟩:=I.loc;have J:Vis X.env.scope x:=by rcases hx with k|k;exact .inl k;exact .inr (.inl k)
 obtain⟨u,r,l⟩:=hl i x v hi e1 J;refine wpAny_AugAssign_Name ?_;have go:aD (aE X.prog X.w) X.A (eval e X.env) (λw G=>aD (aE X.prog X.w) X.A (inplaceOp op u w) (λr B=>aD (aE X.prog X.w) X.A (storeName X.env x r) (λ_=>SP X pins D .next) X.xe B) X.xe G) X.xe s:=by
  refine thn (he pins s σ H _ I h) λw s1 ⟨y,H1,I1,O,Y⟩=>?_;refine thn (ho pins s1 σ H1 v y u w _ I1 r O Y) λz s2 ⟨zv,H2,I2,L,U⟩=>?_;exact store_ok I2 hN hi hx L (λs3 I3=>⟨_,H2,I3,U⟩) hf
 rcases l with⟨d,hm⟩|⟨d,c,hc,j⟩
 ·exact eW I.ok.kind d Z hm go
 ·rcases d with d|d
  ·exact i7 I.ok.kind d hc j go
  ·rcases hx with k|k
   ·have:X.env.scope.names.lookup x=some .free:=d
    rw[k] at this;cases this
   ·have:X.env.scope.names.lookup x=some .free:=d
    rw[k] at this;cases this
def ipI(f:Int->Int->Int):TIp:=λx y H Q=>∃i j,x=.int i/\y=.int j/\Q (.int (f i j)) H
theorem fJh:PIp X .Add (ipI λi j=>i+j):=by
 intro pins s σ H x y v u Q I z d h;obtain⟨i,j,D,B,q⟩:=h;subst D;subst B;obtain⟨t,rfl⟩:=z;obtain⟨G,rfl⟩:=d;exact iadd_int ⟨.int _,H,I.tok _,⟨_,rfl⟩,q⟩
end
section
variable{X:Cx}{pos:Pos}
def fJi(c:TT)(tb:TS):TS:=λD σ H=>∃W:Nat->St->Hp->Prop,(∃m,W m σ H)/\∀m σ H,W m σ H ->
 c σ H λb H1=>if b=true then ∃N:St->Hp->Prop,(∀σ' H',N σ' H'->∃m',m'<m/\W m' σ' H')/\tb {D with nx:=N,ct:=N,bk:=D.nx} σ H1 else D.nx σ H1
theorem eQ4(hp:PassesOwn (aE X.prog X.w) X.A X.env X.xe)(hc:PT X c tc)(hb:PSs X body tb):PS X (.While c body [] pos) (fJi tc tb):=by
 intro pins s σ H D I h;obtain⟨W,⟨m0,Z⟩,turn⟩:=h;refine wpAny_While (codeAny_whileLoop (λn s'=>∃σ' H',Inv X pins σ' H' s'/\W n σ' H') ?_ m0 ⟨σ,H,I,Z⟩);rintro n s1 ⟨σ1,H1,I1,Y⟩;refine eQ hp (thn (hc pins s1 σ1 H1 _ I1 (turn n σ1 H1 Y)) λb s2 ⟨H2,U,z⟩=>?_);cases b with
 |true =>
  obtain⟨N,O,z⟩:=z;rw[if_pos rfl];refine eQ hp (thn (hb pins s2 σ1 H2 _ U z) λf s3 j=>?_);cases f with
  |next =>
   obtain⟨σ3,d,L,G⟩:=j;obtain⟨J,hm,B⟩:=O σ3 d G;exact⟨J,hm,σ3,d,L,B⟩
  |cont =>
   obtain⟨σ3,d,L,G⟩:=j;obtain⟨J,hm,B⟩:=O σ3 d G;exact⟨J,hm,σ3,d,L,B⟩
  |brk=>exact j
  |ret v=>exact j
 |false =>
  rw[if_neg cD];exact iV ⟨σ1,H2,U,z⟩
end
structure It where
 go:Nat->Hp->Prop
 yld:Nat->Hp->V->Hp->Prop
 stop:Nat->Hp->Prop
def FpOk(X:Cx)(pins:List (Addr×Obj))(H:Hp)(b:Addr):Prop :=
 H b=none/\b≠X.env.locals/\b∉X.fs/\(b∈X.ex\/X.s₀.heap.objs.size<=b)/\(∀x c,X.env.cells.lookup x=some c->c≠b)/\∀p∈X.pn++pins,p.1≠b
theorem Inv.fpOk{σ:St}{b:Addr}(I:Inv X pins σ H s)(hb:s.heap.objs.size<=b)(hn:H' b=none):FpOk X pins H' b:=by
 refine⟨hn,fI (bB I.lt hb),I.nofs hb,.inr (aH I.sz hb),λx c e z=>?_,λp d z=>?_⟩
 ·obtain⟨v,q⟩:=I.cell x c e;exact absurd (bB q.lt (by rw[z];exact hb)) (cT _)
 ·exact absurd (bB (aC (I.pin p d).1) (by rw[z];exact hb)) (cT _)
structure Turn(P:aA)(w:aO)(K:ar)(tg:Expr)(J:It)(fp:List Addr)(it:Addr)(tn:Nat->bd->Prop):Prop where
 mem:it∈fp
 obj:∀i h,tn i h->∀b∈fp,∃o,h.get? b=some o/\∀v,o.data≠.cell v
 keep:∀i h h',tn i h->(∀b∈fp,∀o,h.get? b=some o->h'.get? b=some o)->tn i h'
 item:∀(X:Cx),X.prog=P->X.w=w->X.K=K->X.calm=true->∀(i:Nat) (pins:List (Addr×Obj)) (s:ai) (σ:St) (H:Hp) (E:ad->ai->Prop),Inv X pins σ H s->(∀b∈fp,FpOk X pins H b)->tn i s.heap->J.go i H ->
  aD (aE P w) X.A (fJ (.ref it)) (λr s1=>∃ u,r=some u /\
   aD (aE P w) X.A (eR tg (.ref it) u) (λ_ s2=>∃x H',Inv X pins σ H' s2/\RelV x u/\J.yld i H x H'/\tn (i+1) s2.heap/\∀b∈fp,H' b=none) E s1) E s
 done:∀(X:Cx),X.prog=P->X.w=w->X.K=K->X.calm=true->∀(i:Nat) (pins:List (Addr×Obj)) (s:ai) (σ:St) (H:Hp) (E:ad->ai->Prop),Inv X pins σ H s->(∀b∈fp,FpOk X pins H b)->tn i s.heap->J.stop i H ->
  aD (aE P w) X.A (fJ (.ref it)) (λr s1=>r=none/\Inv X pins σ H s1) E s
 self:∀(A:aW) (i:Nat) (s:ai) (Q:ad->ai->Prop) (E:ad->ai->Prop),tn i s.heap->Q (.ref it) s->aD (aE P w) A (iW (.ref it)) Q E s
abbrev TI:=St->Hp->(It->Hp->Prop)->Prop
def PIE(X:Cx)(pins:List (Addr×Obj))(σ:St)(tg:Expr)(R:It->Hp->Prop)(itv:ad)(s2:ai):Prop :=
 ∃(it:Addr) (fp:List Addr) (tn:Nat->bd->Prop) (J:It) (H':Hp),itv=.ref it/\Inv X pins σ H' s2/\Turn X.prog X.w X.K tg J fp it tn/\tn 0 s2.heap/\(∀b∈fp,FpOk X pins H' b)/\R J H'
def PI(X:Cx)(tg iter:Expr)(wi:TI):Prop :=
 ∀(pins:List (Addr×Obj)) (s:ai) (σ:St) (H:Hp) (R:It->Hp->Prop),Inv X pins σ H s->wi σ H R ->
  aD (aE X.prog X.w) X.A (eval iter X.env) (λv s1=>aD (aE X.prog X.w) X.A (iW v) (PIE X pins σ tg R) X.xe s1) X.xe s
theorem eQ5(ho:s.heap.get? it=some o)(hc:o.cls=.type n)(hd:o.data=.fields vs)
    (hn:["enumerate", "zip", "dict_itemiterator", "dict_reverseitemiterator", "odict_iterator", "itertools.zip_longest", "itertools.pairwise"].contains n=false) (hQ:Q () s):aD M A (eR tg (.ref it) u) Q E s:=by
  cases tg <;> first
    |exact ag hQ
    | (cases u <;> first
        |exact ag hQ
        | (refine aa (wpAny_load ho ?_)
           rw [hc,hd];show aD M A (if (["enumerate", "zip", "dict_itemiterator", "dict_reverseitemiterator", "odict_iterator", "itertools.zip_longest", "itertools.pairwise"].contains n&&vs[0]?==some (eJ _))=true then _ else _) Q E s
           rw [if_neg (by intro h; rw [hn,Bool.false_and] at h; cases h)]
           exact ag hQ))
def Itl(K:ar)(a:Addr):It :=
 ⟨λi H=>∃xs x,SqL K H a xs/\xs[i]?=some x,λi H x H'=>H'=H/\∀xs,SqL K H a xs->xs[i]?=some x,λi H=>∃xs,SqL K H a xs/\xs.length<=i⟩
def Itt(K:ar)(a:Addr):It :=
 ⟨λi H=>∃xs x,SqT K H a xs/\xs[i]?=some x,λi H x H'=>H'=H/\∀xs,SqT K H a xs->xs[i]?=some x,λi H=>∃xs,SqT K H a xs/\xs.length<=i⟩
def Itr(lo:Int)(n:Nat):It:=⟨λi _=>i<n,λi H x H'=>H'=H/\x=.int (lo+i),λi _=>n<=i⟩
theorem dQh{K:ar}(a it:Addr):Turn P w K tg (Itl K a) [it] it (λi h=>h.IsListIter it a i) where
 mem:=by simp
 obj:=λi h st b j=>by
  have e:b=it:=by simpa using j
  subst e;obtain⟨o,e,c,d⟩:=st;exact⟨o,e,λv z=>by rw[d] at z;cases z⟩
 keep:=λi h h' st k=>st.at λo e=>k it (by simp) o e
 item:=by
  intro X O hw U Z i pins s σ H E I hf st N;subst O hw U;obtain⟨xs,x,D,L⟩:=N;obtain⟨J,G,p,hz⟩:=I.list D;obtain⟨u,hu,ru⟩:=G.get L;obtain⟨f0,f1,f2,Y,f4,f5⟩:=hf it (by simp)
  refine wpAny_pyNext_list_item st p.isList (by simpa using hu) λh' B sb=>?_
  have I1:Inv X pins σ H {s with heap:=h'}:=I.turned (λb o j e=>(sb.2 b j).trans e) f0 f1 Y f4 f5
  obtain⟨o,e,c,d⟩:=id B;exact⟨u,rfl,eQ5 e c d (by decide) ⟨x,H,I1,ru,⟨rfl,λys hy=>by rw[I.list_inj hy D];exact L⟩,B,λb j=>(hf b j).1⟩⟩
 done:=by
  intro X O hw U Z i pins s σ H E I hf st N;subst O hw U;obtain⟨xs,D,L⟩:=N;obtain⟨J,G,p,hz⟩:=I.list D;obtain⟨f0,f1,f2,Y,f4,f5⟩:=hf it (by simp)
  have hl:=G.length;exact wpAny_pyNext_list_end (I.ok.hd Z) st p.isList (by simp;lia) λh' eb=>⟨rfl,I.turned (λb o j e=>eb b o j e) f0 f1 Y f4 f5⟩
 self:=λ_ _ _ _ _ st h=>wpAny_pyIter_listiter st h
theorem cJj{K:ar}(a it:Addr):Turn P w K tg (Itt K a) [it] it (λi h=>h.IsTupleIter it a i) where
 mem:=by simp
 obj:=λi h st b B=>by
  have e:b=it:=by simpa using B
  subst e;obtain⟨o,e,c,d⟩:=st;exact⟨o,e,λv z=>by rw[d] at z;cases z⟩
 keep:=λi h h' st k=>st.at λo e=>k it (by simp) o e
 item:=by
  intro X O hw U Z i pins s σ H E I hf st N;subst O hw U;obtain⟨xs,x,G,L⟩:=N;obtain⟨j,J,p,hz⟩:=I.tuple G;obtain⟨u,hu,ru⟩:=J.get L;obtain⟨f0,f1,f2,Y,f4,f5⟩:=hf it (by simp)
  refine wpAny_pyNext_tuple_item st (p) (by simpa using hu) λh' D sb=>?_
  have I1:Inv X pins σ H {s with heap:=h'}:=I.turned (λb o B e=>(sb.2 b B).trans e) f0 f1 Y f4 f5
  obtain⟨o,e,c,d⟩:=id D;exact⟨u,rfl,eQ5 e c d (by decide) ⟨x,H,I1,ru,⟨rfl,λys hy=>by rw[I.tuple_inj hy G];exact L⟩,D,λb B=>(hf b B).1⟩⟩
 done:=by
  intro X O hw U Z i pins s σ H E I hf st N;subst O hw U;obtain⟨xs,G,L⟩:=N;obtain⟨j,J,p,hz⟩:=I.tuple G;obtain⟨f0,f1,f2,Y,f4,f5⟩:=hf it (by simp)
  have hl:=J.length;exact wpAny_pyNext_tuple_end (I.ok.hd Z) st (p) (by simp;lia) λh' eb=>⟨rfl,I.turned (λb o B e=>eb b o B e) f0 f1 Y f4 f5⟩
 self:=λ_ _ _ _ _ st h=>wpAny_pyIter_tupleiter st h
theorem cJk{K:ar}(it:Addr)(lo:Int)(n:Nat):Turn P w K tg (Itr lo n) [it] it (λi h=>IsRangeIter h it (lo+i*1) (n-i) 1) where
 mem:=by simp
 obj:=λi h st b d=>by
  have e:b=it:=by simpa using d
  subst e;exact⟨_,st,λv z=>by
   have z':=z;cases z'⟩
 keep:=λi h h' st k=>k it (by simp) _ st
 item:=by
  intro X G hw J D i pins s σ H E I hf st B;subst G hw J;obtain⟨f0,f1,f2,L,f4,f5⟩:=hf it (by simp)
  have W:=Walks.range (prog:=X.prog) (w:=X.w) (I.ok.hd D) it lo 1 n;refine W.item i s _ _ B st λv h' N U j O=>?_;obtain⟨t,rfl⟩:=U;have Z:Inv X pins σ H {s with heap:=h',toks:=N}:=I.turned (λb o d e=>O b o (by simpa using d) e) f0 f1 L f4 f5
  refine⟨_,rfl,eQ5 j rfl rfl (by decide) ⟨.int (lo+i),H,Z,⟨t,?_⟩,⟨rfl,rfl⟩,j,λb d=>(hf b d).1⟩⟩
  rw[Int.mul_one]
 done:=by
  intro X G hw J D i pins s σ H E I hf st B;subst G hw J;obtain⟨f0,f1,f2,L,f4,f5⟩:=hf it (by simp)
  exact wpAny_pyNext_range_end (I.ok.hd D) st (by have:n<=i:=B;lia) λh' Y=>⟨rfl,I.turned (λb o d e=>Y b o d e) f0 f1 L f4 f5⟩
 self:=λ_ _ _ _ _ st h=>wpAny_pyIter_rangeiter st h
section
variable{X:Cx}{tg:Expr}
theorem cZu{σ:St}{lo hi:Int}(I:Inv X pins σ H s)(h1:-(2^62)<=lo)(h2:lo<2^62)(h3:-(2^62)<=hi)(h4:hi<2^62)
  (q:R (Itr lo (hi-lo).toNat) H):aD (aE X.prog X.w) X.A (iW (.ref s.heap.objs.size)) (PIE X pins σ tg R) E {s with heap:=s.heap.push {cls:=.type "range",data:=.fields #[.int lo t,.int hi u,.int 1 v]},toks:=tk}:=by
 refine wpAny_pyIter_range (IsRange.new ..) (small_one h1 h2 h3 h4) ?_;have d:Inv X pins σ H {s with heap:=s.heap.push {cls:=.type "range",data:=.fields #[.int lo t,.int hi u,.int 1 v]},toks:=tk}:=I.kept λb o e=>af _ e
 refine⟨(s.heap.push { cls:=.type "range",data:=.fields #[.int lo t,.int hi u,.int 1 v] }).objs.size,[(s.heap.push { cls:=.type "range",data:=.fields #[.int lo t,.int hi u,.int 1 v] }).objs.size],_,_,H,rfl,
  d.kept λb o e=>af _ e,cJk _ lo (hi-lo).toNat,?_,λb j=>?_,q⟩
 ·have B:lo+((0:Nat))*1=lo:=by simp
  have z:(((hi-lo).toNat))-((0:Nat))=cX.Range.rangeSize lo hi 1:=by rw[rangeSize_one];split <;> lia
  rw[B,z];exact au _ rfl
 ·have e:b=(s.heap.push {cls:=.type "range",data:=.fields #[.int lo t,.int hi u,.int 1 v]}).objs.size:=by simpa using j
  subst e;exact d.fpOk (am _) (d.hok.fresh (am _))
def gJ7(ta:TA):TI:=fun σ H R=>ta σ H λvs H1=>∃j:Int,vs=[.int j]/\-(2^62)<=j/\j<2^62/\R (Itr 0 j.toNat) H1
def gJ8(ta:TA):TI:=fun σ H R=>ta σ H λvs H1=>∃i j:Int,vs=[.int i,.int j]/\(-(2^62)<=i/\i<2^62/\-(2^62)<=j/\j<2^62)/\R (Itr i (j-i).toNat) H1
theorem dQi(hg:Gl X "range")(hm:X.mg "range"=none)(ha:PA X [a] ta)(hs:az [a] X.env=[(false,eval a X.env)]:=by rfl):PI X tg (.Call (.Name "range" p) [a] [] pos) (gJ7 ta):=by
 intro pins s σ H R I h;refine Call_ (ld_blt I hg hm boot_range (ew (thn (ha pos pins s σ H _ I h) λus s1 ⟨vs,H1,B,r1,d⟩=>?_) hs rfl));obtain⟨j,e,d,z,q⟩:=d;subst e;cases r1 with
 |cons r rr =>
  cases rr;obtain⟨t,rfl⟩:=r;exact call_range_1 (cZu B (by lia) (by lia) d z (by simpa using q))
theorem dQj{p pos:Pos}(hg:Gl X "range")(hm:X.mg "range"=none)(ha:PA X [a,b] ta)(hs:az [a,b] X.env=[(false,eval a X.env),(false,eval b X.env)]:=by rfl)(hs2:az [b] X.env=[(false,eval b X.env)]:=by rfl) :
  PI X tg (.Call (.Name "range" p) [a,b] [] pos) (gJ8 ta):=by
 intro pins s σ H R I h;refine Call_ (ld_blt I hg hm boot_range (ew (thn (ha pos pins s σ H _ I h) λus s1 ⟨vs,H1,J,r1,d⟩=>?_) (by rw[hs,hs2]) (by rw[hs2];rfl)))
 obtain⟨i,j,e,⟨d,G,D,B⟩,q⟩:=d;subst e;cases r1 with
 |cons r rr =>
  cases rr with
  |cons z rr =>
   cases rr;obtain⟨t,rfl⟩:=r;obtain⟨L,rfl⟩:=z;exact call_range_2 (cZu J d G D B q)
def tFor(wi:TI)(g:TG)(tb:TS):TS:=λD σ H=>wi σ H λJ H1=>∃W:Nat->Nat->St->Hp->Prop,(∃m,W 0 m σ H1)/\∀i m σ H,W i m σ H ->
 (J.stop i H/\D.nx σ H)\/(J.go i H/\∃N:St->Hp->Prop,(∀σ' H',N σ' H'->∃m',m'<m/\W (i+1) m' σ' H')/\∀x H',J.yld i H x H'->g x σ H' fun σ2 H2=>tb {D with nx:=N,ct:=N,bk:=D.nx} σ2 H2)
def bJp(fp:List Addr)(h:bd):List (Addr×Obj):=fp.filterMap λb=>(h.get? b).map λo=>(b,o)
theorem aXk(hb:b∈fp)(e:h.get? b=some o):(b,o)∈bJp fp h:=dW.mpr ⟨b,hb,by rw[e];rfl⟩
theorem dQk(hp:p∈bJp fp h):p.1∈fp/\h.get? p.1=some p.2:=by
 obtain⟨b,d,e⟩:=dW.mp hp;cases q:h.get? b with
 |none=>rw[q] at e;cases e
 |some o =>
  rw[q] at e;have j:=aQ e;subst j;exact⟨d,q⟩
theorem Inv.pinned{σ:St}(I:Inv X pins σ H s)(hf:∀b∈fp,FpOk X pins H b)(ho:∀b∈fp,∃o,s.heap.get? b=some o/\∀v,o.data≠.cell v):Inv X (pins++bJp fp s.heap) σ H s :=
 I.pins_of λp B=>(a6.mp B).elim (λz=>I.pin p (bq _ z)) λz=>by
  obtain⟨j,e⟩:=dQk z;obtain⟨f0,f1,f2,_⟩:=hf p.1 j;obtain⟨o,e',d⟩:=ho p.1 j;rw[e] at e';cases e';exact⟨e,f0,f1,f2,d⟩
theorem Inv.unpinned{σ:St}(I:Inv X (pins++pl) σ H s):Inv X pins σ H s:=I.pins_of λp d=>I.pin p (bq _ (cm _ d))
theorem fJj(hp:PassesOwn (aE X.prog X.w) X.A X.env X.xe)(hc:X.calm=true)(hi:PI X tg iter wi)(hg:PG X tg g)(hb:PSs X body tb)
  (hs:∀x,cy iter X.env x=pure x:=by intro _;rfl):PS X (.For tg iter body [] pos) (tFor wi g tb):=by
 intro pins s σ H D I h;refine wpAny_For (thn (hi pins s σ H _ I h) λv s1 h1=>thn h1 λitv s2 h2=>?_) hs;obtain⟨it,fp,tn,J,H2,e,I2,T,st2,f2,W,⟨m0,w0⟩,turn⟩:=h2;subst e;have j:∀{H':Hp},(∀b∈fp,H' b=none)->∀b∈fp,FpOk X pins H' b:=λhn b hb=>⟨hn b hb,(f2 b hb).2⟩;refine codeAny_forLoop_any (λn s'=>∃i σ' H',Inv X pins σ' H' s'/\tn i s'.heap/\(∀b∈fp,H' b=none)/\W i n σ' H') ?_ m0 ⟨0,σ,H2,I2,st2,λb hb=>(f2 b hb).1,w0⟩;rintro n s3 ⟨i,σ3,Z,I3,O,Y,w3⟩;rcases turn i n σ3 Z w3 with⟨stop,qn⟩|⟨go,N,hN,step⟩
 ·refine eQ hp (thn (T.done X rfl rfl rfl hc i pins s3 σ3 Z X.xe I3 (j Y) O stop) λr s4 ⟨hr,I4⟩=>?_);subst hr;exact iV ⟨σ3,Z,I4,qn⟩
 ·refine eQ hp (thn (T.item X rfl rfl rfl hc i pins s3 σ3 Z X.xe I3 (j Y) O go) λr s4 ⟨u,hr,h4⟩=>?_);subst hr;refine eQ hp (thn h4 λ_ s5 ⟨x,H5,I5,r5,y5,L,fr5⟩=>?_);have I5':=I5.pinned (j fr5) (T.obj _ _ L);refine eQ hp (thn (hg _ s5 σ3 H5 x u _ I5' r5 (step x H5 y5)) λ_ s6 ⟨σ6,H6,I6,q6⟩=>?_);refine eQ hp (thn (hb _ s6 σ6 H6 _ I6 q6) λf s7 G=>?_);have again:∀{σ7:St}{B:Hp},Inv X (pins++bJp fp s5.heap) σ7 B s7->N σ7 B->∃m,m<n/\∃i σ' H',Inv X pins σ' H' s7/\tn i s7.heap/\(∀b∈fp,H' b=none)/\W i m σ' H':=λ{σ7 B} z U=>by
   obtain⟨m',hm,w7⟩:=hN σ7 B U;refine⟨m',hm,i+1,σ7,B,z.unpinned,T.keep _ _ _ L λb hb o e=>(z.pin (b,o) (bq _ (bq _ (aXk hb e)))).1,λb hb=>?_,w7⟩;obtain⟨o,e,d⟩:=T.obj _ _ L b hb;exact(z.pin (b,o) (bq _ (bq _ (aXk hb e)))).2.1
  cases f with
  |next=>obtain⟨σ7,B,z,U⟩:=G;exact again z U
  |cont=>obtain⟨σ7,B,z,U⟩:=G;exact again z U
  |brk=>obtain⟨σ7,B,z,G⟩:=G;exact⟨σ7,B,z.unpinned,G⟩
  |ret v=>obtain⟨x7,σ7,B,z,r7,G⟩:=G;exact⟨x7,σ7,B,z.unpinned,r7,G⟩
end
abbrev R2:=V->V->Hp->VK->Prop
def OpR(X:Cx)(f:ad->ad->Sem ad)(r:R2):Prop :=
 ∀(pins:List (Addr×Obj)) (s:ai) (σ:St) (H:Hp) (x y:V) (v u:ad) (Q:VK),Inv X pins σ H s->RelV x v->RelV y u->r x y H Q ->
  aD (aE X.prog X.w) X.A (f v u) (EP X pins σ Q) X.xe s
def UnR(X:Cx)(f:ad->Sem ad)(r:V->Hp->VK->Prop):Prop :=
 ∀(pins:List (Addr×Obj)) (s:ai) (σ:St) (H:Hp) (x:V) (v:ad) (Q:VK),Inv X pins σ H s->RelV x v->r x H Q ->
  aD (aE X.prog X.w) X.A (f v) (EP X pins σ Q) X.xe s
def CallR(X:Cx)(f:ad)(r:List V->Hp->VK->Prop):Prop :=
 ∀(pins:List (Addr×Obj)) (s:ai) (σ:St) (H:Hp) (xs:List V) (us:List ad) (Q:VK),Inv X pins σ H s->Vals xs us->r xs H Q ->
  aD (aE X.prog X.w) X.A (call f us) (EP X pins σ Q) X.xe s
def TruR(X:Cx)(r:V->Hp->(Bool->Hp->Prop)->Prop):Prop :=
 ∀(pins:List (Addr×Obj)) (s:ai) (σ:St) (H:Hp) (x:V) (v:ad) (Q:Bool->Hp->Prop),Inv X pins σ H s->RelV x v->r x H Q ->
  aD (aE X.prog X.w) X.A (truthy v) (TP X pins σ Q) X.xe s
def tOp(r:R2)(ta tb:TE):TE:=fun σ H Q=>ta σ H λx H1=>tb σ H1 λy H2=>r x y H2 Q
def tUn(r:V->Hp->VK->Prop)(ta:TE):TE:=fun σ H Q=>ta σ H λx H1=>r x H1 Q
def rI(C:Int->Int->Prop)(g:Int->Int->V):R2:=λx y H Q=>∃i j,x=.int i/\y=.int j/\C i j/\Q (g i j) H
def rI0(g:Int->Int->V):R2:=λx y H Q=>∃i j,x=.int i/\y=.int j/\Q (g i j) H
def rU(g:Int->V):V->Hp->VK->Prop:=λx H Q=>∃i,x=.int i/\Q (g i) H
section
variable{X:Cx}{a b c:Expr}{ta tb tc:TE}{pos:Pos}
theorem binT(ha:PE X a ta)(hb:PE X b tb){pins:List (Addr×Obj)}{s:ai}{σ:St}{H:Hp}{R:V->V->Hp->Prop}(I:Inv X pins σ H s)
  (h:ta σ H λx H1=>tb σ H1 λy H2=>R x y H2) {Q:ad->ai->Prop}{f:ad->ad->Sem ad}
  (hf:∀v u s2 x y H2,Inv X pins σ H2 s2->RelV x v->RelV y u->R x y H2->aD (aE X.prog X.w) X.A (f v u) Q X.xe s2) :
  aD (aE X.prog X.w) X.A (eval a X.env) (λv s₁=>aD (aE X.prog X.w) X.A (eval b X.env) (λu s₂=>aD (aE X.prog X.w) X.A (f v u) Q X.xe s₂) X.xe s₁) X.xe s:=by
 refine thn (ha pins s σ H _ I h) λv s1 ⟨x,H1,G,j,B⟩=>?_;refine thn (hb pins s1 σ H1 _ G B) λu s2 ⟨y,H2,D,d,z⟩=>?_;exact hf v u s2 x y H2 D j d z
theorem gJ9(ho:OpR X (eX op) r)(ha:PE X a ta)(hb:PE X b tb):PE X (.BinOp a op b pos) (tOp r ta tb):=by
 intro pins s σ H Q I h;exact wpAny_BinOp (binT ha hb I h λv u s2 x y H2 z j d q=>ho pins s2 σ H2 x y v u Q z j d q)
theorem fJk(ho:UnR X (unaryOp op) r)(ha:PE X a ta):PE X (.UnaryOp op a pos) (tUn r ta):=by
 intro pins s σ H Q I h;exact UnaryOp_ (thn (ha pins s σ H _ I h) λv s1 ⟨x,H1,z,d,j⟩=>ho pins s1 σ H1 x v Q z d j)
theorem opI{g:Int->Int->Int}
  (rule:∀(i j:Int) (t u:Tok) (s:ai) (Q:ad->ai->Prop) (E:ad->ai->Prop),C i j->Q (.int (g i j) s.toks) {s with toks:=s.toks+1}->aD (aE X.prog X.w) X.A (f (.int i t) (.int j u)) Q E s) :
  OpR X f (rI C λi j=>.int (g i j)):=by
 intro pins s σ H x y v u Q I B z h;obtain⟨i,j,rfl,rfl,D,q⟩:=h;obtain⟨t,rfl⟩:=B;obtain⟨d,rfl⟩:=z;exact rule i j t d s _ _ D ⟨.int (g i j),H,I.tok _,⟨_,rfl⟩,q⟩
theorem opI0{g:Int->Int->Int}
  (rule:∀(i j:Int) (t u:Tok) (s:ai) (Q:ad->ai->Prop) (E:ad->ai->Prop),Q (.int (g i j) s.toks) {s with toks:=s.toks+1}->aD (aE X.prog X.w) X.A (f (.int i t) (.int j u)) Q E s) :
  OpR X f (rI0 λi j=>.int (g i j)):=by
 intro pins s σ H x y v u Q I B z h;obtain⟨i,j,rfl,rfl,q⟩:=h;obtain⟨t,rfl⟩:=B;obtain⟨d,rfl⟩:=z;exact rule i j t d s _ _ ⟨.int (g i j),H,I.tok _,⟨_,rfl⟩,q⟩
theorem opB0{g:Int->Int->Bool}
  (rule:∀(i j:Int) (t u:Tok) (s:ai) (Q:ad->ai->Prop) (E:ad->ai->Prop),Q (.bool (g i j)) s->aD (aE X.prog X.w) X.A (f (.int i t) (.int j u)) Q E s) :
  OpR X f (rI0 λi j=>.bl (g i j)):=by
 intro pins s σ H x y v u Q I B z h;obtain⟨i,j,rfl,rfl,q⟩:=h;obtain⟨t,rfl⟩:=B;obtain⟨d,rfl⟩:=z;exact rule i j t d s _ _ ⟨.bl (g i j),H,I,rfl,q⟩
def CDiv(i j:Int):Prop:=0<j/\j<1073741824
def CPow(i j:Int):Prop:=0<=j/\j<=1000000/\i.natAbs<2^64
def CMul(i j:Int):Prop:=(-(2^64)<i/\i<2^64)\/(-(2^64)<j/\j<2^64)
theorem CMul.ok(h:CMul i j):IntMulOk i j:=by
 rcases h with⟨h1,h2⟩|⟨h1,h2⟩
 ·exact .of_left (intBits_le_64 h1 h2)
 ·exact .of_right (intBits_le_64 h1 h2)
theorem op_add:OpR X (eX .Add) (rI0 λi j=>.int (i+j)):=opI0 λ_ _ _ _ _ _ _ q=>add_int q
theorem fJl:OpR X (eX .Sub) (rI0 λi j=>.int (i-j)):=opI0 λ_ _ _ _ _ _ _ q=>sub_int q
theorem fJm:OpR X (eX .Mult) (rI CMul λi j=>.int (i*j)):=opI λ_ _ _ _ _ _ _ d q=>mul_int q d.ok
theorem eJm:OpR X (eX .FloorDiv) (rI CDiv λi j=>.int (i/j)):=opI λi j _ _ _ _ _ d q=>by
 have h1:=d.1;have h2:=d.2;exact floordiv_int (by lia) (by rw[Int.fdiv_eq_ediv_of_nonneg i (by lia)];exact q) (.inl (PyProof.noPylong_small (by lia)))
theorem fJn:OpR X (eX .Mod) (rI (λ_ j=>0<j) λi j=>.int (i%j)):=opI λi j _ _ _ _ _ d q=>by
 have h1:=d;exact mod_int' (by lia) (by rw[Int.fmod_eq_emod_of_nonneg i (by lia)];exact q)
theorem fJo:OpR X (eX .Pow) (rI CPow λi j=>.int (i^j.toNat)):=opI λ_ _ _ _ _ _ _ d q=>pow_int_small d.1 d.2.1 d.2.2 q
theorem unI{g:Int->Int}
  (rule:∀(i:Int) (t:Tok) (s:ai) (Q:ad->ai->Prop) (E:ad->ai->Prop),Q (.int (g i) s.toks) {s with toks:=s.toks+1}->aD (aE X.prog X.w) X.A (f (.int i t)) Q E s) :
  UnR X f (rU λi=>.int (g i)):=by
 intro pins s σ H x v Q I d h;obtain⟨i,rfl,q⟩:=h;obtain⟨t,rfl⟩:=d;exact rule i t s _ _ ⟨.int (g i),H,I.tok _,⟨_,rfl⟩,q⟩
theorem eX8:UnR X (unaryOp .USub) (rU λi=>.int (-i)):=unI λ_ _ _ _ _ q=>neg_int q
end
section
variable{X:Cx}{a b c:Expr}{ta tb tc:TE}{pos:Pos}
theorem dQl{σ:St}(I:Inv X pins σ H s)(q:Q (.bl k) H)(e:k=k'):EP X pins σ Q (.bool k') s:=by
 subst e;exact⟨.bl k,H,I,rfl,q⟩
theorem op_lt:OpR X (cq .Lt) (rI0 λi j=>.bl (decide (i<j))):=opB0 λ_ _ _ _ _ _ _ q=>lt_int q
theorem eQ6:OpR X (cq .LtE) (rI0 λi j=>.bl (decide (i<=j))):=opB0 λ_ _ _ _ _ _ _ q=>le_int q
theorem gJa:OpR X (cq .Gt) (rI0 λi j=>.bl (decide (j<i))):=opB0 λ_ _ _ _ _ _ _ q=>gt_int q
theorem gJb:OpR X (cq .GtE) (rI0 λi j=>.bl (decide (j<=i))):=opB0 λ_ _ _ _ _ _ _ q=>ge_int q
theorem op_lt_str:OpR X (cq .Lt) (λx y H Q=>∃i j,x=.str i/\y=.str j/\Q (.bl (decide (i.cps.toList<j.cps.toList))) H):=by
 intro pins s σ H x y v u Q I z d h;obtain⟨i,j,rfl,rfl,q⟩:=h;obtain⟨t,rfl⟩:=z;obtain⟨B,rfl⟩:=d;exact lt_str (dQl I q rfl)
theorem fJp:OpR X (cq .Is) (λx y H Q=>y=.non/\Q (.bl (decide (x=.non))) H):=by
 intro pins s σ H x y v u Q I rx ry h;obtain⟨rfl,q⟩:=h;cases ry;refine is_none_gen (dQl I q ?_);cases x <;> first
  |(cases rx;rfl)
  |(obtain⟨t,rfl⟩:=rx;rfl)
theorem eJn:OpR X (cq .IsNot) (λx y H Q=>y=.non/\Q (.bl (!decide (x=.non))) H):=by
 intro pins s σ H x y v u Q I rx ry h;obtain⟨rfl,q⟩:=h;cases ry;refine isnot_none_gen (dQl I q ?_);cases x <;> first
  |(cases rx;rfl)
  |(obtain⟨t,rfl⟩:=rx;rfl)
theorem OpR.or(h:OpR X f r)(h':OpR X f r'):OpR X f (λx y H Q=>r x y H Q\/r' x y H Q):=by
 intro pins s σ H x y v u Q I j d q;rcases q with q|q
 ·exact h pins s σ H x y v u Q I j d q
 ·exact h' pins s σ H x y v u Q I j d q
theorem nomark(b:Expr){op:CmpOp}(h:op≠.In:=by decide)(h2:op≠.NotIn:=by decide):eE op b=false:=by
 have j:(op==CmpOp.In)=false:=by cases op <;> first|rfl|exact absurd rfl h
 have d:(op==CmpOp.NotIn)=false:=by cases op <;> first|rfl|exact absurd rfl h2
 cases b <;> simp[eE,j,d]
theorem eJo(ho:OpR X (cq op) r)(ha:PE X a ta)(hb:PE X b tb)(hm:eE op b=false):PE X (.Compare a [op] [b] pos) (tOp r ta tb):=by
 intro pins s σ H Q I h;exact wpAny_Compare1 (binT ha hb I h λv u s2 x y H2 z j d q=>ho pins s2 σ H2 x y v u Q z j d q) hm
def eJp(t:TE):TT:=fun σ H Q=>t σ H λx H'=>∃k,x=.bl k/\Q k H'
theorem eJq(ho:OpR X (cq op) r)(ha:PE X a ta)(hb:PE X b tb)(hm:eE op b=false):PT X (.Compare a [op] [b] pos) (eJp (tOp r ta tb)):=by
 intro pins s σ H Q I h;refine wpAny_isTrue_Compare1 (thn (ha pins s σ H _ I h) λv s1 ⟨x,H1,N,j,G⟩=>thn (hb pins s1 σ H1 _ N G) λu s2 ⟨y,H2,L,d,D⟩ =>
  thn (ho pins s2 σ H2 x y v u _ L j d D) λc s3 ⟨z,O,J,r3,k,e,B⟩=>?_) hm
 subst e;cases r3;exact cJ ⟨O,J,B⟩
def eX9(r r':R2)(ta tb tc:TE):TE:=fun σ H Q=>ta σ H λx H1=>tb σ H1 λy H2=>r x y H2 λz H3=>∃k,z=.bl k /\
 (if k=true then tc σ H3 λw' H4=>r' y w' H4 Q else Q (.bl false) H3)
theorem eQ7(ho:OpR X (cq op) r)(ho':OpR X (cq op') r')(ha:PE X a ta)(hb:PE X b tb)(hc:PE X c tc)
  (hm:lastMarks [op,op'] [b,c]=false:=by with_unfolding_all rfl):PT X (.Compare a [op,op'] [b,c] pos) (eJp (eX9 r r' ta tb tc)):=by
 intro pins s σ H Q I h;refine isTrue_chain (thn (ha pins s σ H _ I h) λv s1 ⟨x,H1,I1,O,q1⟩=>test_link (thn (hb pins s1 σ H1 _ I1 q1) λu s2 ⟨y,H2,I2,j,Z⟩ =>
  thn (ho pins s2 σ H2 x y v u _ I2 O j Z) λd s3 ⟨z,G,D,r3,k,e,B⟩=>?_)) hm
 subst e;cases r3;refine cJ ?_;cases k with
 |false =>
  obtain⟨k',e',q'⟩:=B;cases e';exact ite_ff ⟨G,D,q'⟩
 |true =>
  refine ite_tt (test_last (thn (hc pins s3 σ G _ D B) λL s4 ⟨J,H4,I4,N,Y⟩=>thn (ho' pins s4 σ H4 y J u L _ I4 j N Y) λd' s5 ⟨z2,H5,I5,r5,k2,e2,U⟩=>?_));subst e2;cases r5;exact cJ ⟨H5,I5,U⟩
def TruV(K:ar)(x:V)(H:Hp)(k:Bool):Prop :=
 match x with
 |.non=>k=false
 |.bl b=>k=b
 |.int i=>k=(i !=0)
 |.str y=>y.length<=sizeLine/\k=((y.length:Int) !=0)
 |.byt y=>y.size<=sizeLine/\k=((y.size:Int) !=0)
 |.ref p=>(∃xs,SqL K H p xs/\k=!xs.isEmpty)\/(∃xs,SqT K H p xs/\k=!xs.isEmpty)\/∃kvs,H p=some (.dK kvs)/\k=!kvs.isEmpty
 |_=>False
theorem cJl{kvs:List (κ×V)}{vs:List (κ×ad)}(r:KV kvs vs):(!vs.isEmpty)=!kvs.isEmpty:=by
 cases r <;> rfl
theorem bZy(r:Vals xs its):(!its.toArray.isEmpty)=!xs.isEmpty:=by
 cases r <;> simp
theorem bZz:sizeLine<2^63:=by rw[aZ];decide
theorem eXa:TruR X (λx H Q=>∃k,TruV X.K x H k/\Q k H):=by
 intro pins s σ H x v Q I rx h;obtain⟨k,e,q⟩:=h;have hl:=bZz;have hs:=aZ;cases x with
 |non =>
  cases rx;have d:=e;subst d;exact truthy_none ⟨H,I,q⟩
 |bl b =>
  cases rx;have d:=e;subst d;exact cJ ⟨H,I,q⟩
 |int i =>
  obtain⟨t,rfl⟩:=rx;have d:=e;subst d;exact PySem.P.truthy_int ⟨H,I,q⟩
 |str y =>
  obtain⟨t,rfl⟩:=rx;obtain⟨D,d⟩:y.length<=sizeLine/\k=((y.length:Int) !=0):=e;subst d;exact PySem.P.truthy_str (by lia) ⟨H,I.tok _,q⟩
 |byt y =>
  obtain⟨t,rfl⟩:=rx;obtain⟨D,d⟩:y.size<=sizeLine/\k=((y.size:Int) !=0):=e;subst d;exact PySem.W.truthy_bytes (by lia) ⟨H,I.tok _,q⟩
 |ref p =>
  cases rx;have d:=e;rcases d with⟨xs,j,d⟩|⟨xs,j,d⟩|⟨kvs,j,d⟩
  ·subst d;obtain⟨z,r,pl,B⟩:=I.list j;have hlen:=r.length;exact wpAny_truthy_list pl.isList (by simp only[aq];lia) ⟨H,I.tok _,by rw[bZy r];exact q⟩
  ·subst d;obtain⟨z,r,pl,B⟩:=I.tuple j;have hlen:=r.length;exact truthy_tuple pl (by simp only[aq];lia) ⟨H,I.tok _,by rw[bZy r];exact q⟩
  ·subst d;obtain⟨B,G,vs,r,m⟩:kvs.length<=sizeLine/\(p==fj)=false/\∃vs,KV kvs vs/\s.heap.DictOf (aQw X.prog X.w) p vs:=I.hok p _ j;have hlen:=bW r;exact wpAny_truthy_dict G m (by lia) ⟨H,I.tok _,by rw[cJl r];exact q⟩
 |_=>exact(e).elim
theorem eQ8(ha:PE X a ta)(he:∀whole,isTrue a X.env whole=(do let v <- whole;gn a.pos;fZ [v] (truthy v))) :
  PT X a (fun σ H Q=>ta σ H λx H'=>∃k,TruV X.K x H' k/\Q k H'):=by
 intro pins s σ H Q I h;exact isTrue_plain (thn (ha pins s σ H _ I h) λv s1 ⟨x,H1,z,d,j⟩=>eXa pins s1 σ H1 x v Q z d j) (he _)
theorem op_add_str:OpR X (eX .Add) (λx y H Q=>∃i j,x=.str i/\y=.str j/\i.length+j.length<=sizeLine/\Q (.str (i++j)) H):=by
 intro pins s σ H x y v u Q I B z h;obtain⟨i,j,rfl,rfl,D,q⟩:=h;obtain⟨t,rfl⟩:=B;obtain⟨d,rfl⟩:=z;exact add_str (λd G=>⟨.str (i++j),H,I.tok _,⟨_,rfl⟩,q⟩) D
theorem aX4(r:Vals [x] us):∃u,us=[u]/\RelV x u:=by
 cases r with
 |cons d r2=>cases r2;exact⟨_,rfl,d⟩
theorem gJc(r:Vals [x,y] us):∃u w',us=[u,w']/\RelV x u/\RelV y w':=by
 cases r with
 |cons j r2 =>
  cases r2 with
  |cons d r4=>cases r4;exact⟨_,_,rfl,j,d⟩
theorem eQ9:CallR X (.builtin "abs") (λxs H Q=>∃i,xs=[.int i]/\Q (.int (if i<0 then -i else i)) H):=by
 intro pins s σ H xs us Q I r h;obtain⟨i,rfl,q⟩:=h;obtain⟨u,rfl,t,rfl⟩:=aX4 r;exact call_abs_int λu d=>⟨.int (if i<0 then -i else i),H,I.tok _,⟨_,rfl⟩,q⟩
theorem dQm(hc:X.calm=true):CallR X (.builtin "min") (λxs H Q=>∃i j,xs=[.int i,.int j]/\Q (.int (if j<i then j else i)) H):=by
 intro pins s σ H xs us Q I r h;obtain⟨i,j,rfl,q⟩:=h;obtain⟨u,z,rfl,⟨t,rfl⟩,⟨D,rfl⟩⟩:=gJc r;refine min_two_ints (I.ok.hd hc) λh' B k=>⟨_,H,I.kept k,?_,q⟩
 by_cases d:j<i
 ·rw[if_pos d,if_pos d];exact⟨_,rfl⟩
 ·rw[if_neg d,if_neg d];exact⟨_,rfl⟩
def LenV(K:ar)(x:V)(H:Hp)(n:Nat):Prop :=
 match x with
 |.str y=>y.length<=sizeLine/\n=y.length
 |.byt y=>y.size<=sizeLine/\n=y.size
 |.ref p=>(∃xs,SqL K H p xs/\n=xs.length)\/∃xs,SqT K H p xs/\n=xs.length
 |_=>False
theorem eQa:CallR X (.builtin "len") (λxs H Q=>∃x n,xs=[x]/\LenV X.K x H n/\Q (.int n) H):=by
 intro pins s σ H xs us Q I r h;obtain⟨x,n,rfl,e,q⟩:=h;obtain⟨u,rfl,rx⟩:=aX4 r;have hl:=bZz;have hs:=aZ;cases x with
 |str y =>
  obtain⟨t,rfl⟩:=rx;obtain⟨G,d⟩:y.length<=sizeLine/\n=y.length:=e;subst d;exact len_str (by lia) ⟨.int _,H,I.tok _,⟨_,rfl⟩,q⟩
 |byt y =>
  obtain⟨t,rfl⟩:=rx;obtain⟨G,d⟩:y.size<=sizeLine/\n=y.size:=e;subst d;exact PySem.W.len_bytes (by lia) ⟨.int _,H,I.tok _,⟨_,rfl⟩,q⟩
 |ref p =>
  cases rx;have d:=e;rcases d with⟨xs,B,d⟩|⟨xs,B,d⟩
  ·subst d;obtain⟨z,j,pl,D⟩:=I.list B;have hlen:=j.length;exact Calls.call_len_list pl.isList (by simp only[aq];lia) ⟨.int xs.length,H,I.tok _,⟨_,by simp only[aq];rw[hlen]⟩,q⟩
  ·subst d;obtain⟨z,j,pl,D⟩:=I.tuple B;have hlen:=j.length;exact len_tuple pl (by simp only[aq];lia) ⟨.int xs.length,H,I.tok _,⟨_,by simp only[aq];rw[hlen]⟩,q⟩
 |_=>exact(e).elim
end
theorem RelO.some_of(r:RelO (some v) o):∃u,o=some u/\RelV v u:=by
 cases o with
 |none=>exact(r).elim
 |some u=>exact⟨u,rfl,r⟩
structure Room(k:Nat)(A:aW):Prop where
 hd:A.handled=none
 dp:A.depth+3*k+5<g6
 un:A.units+16*k+200<bR
theorem Room.mono(r:Room k A)(h:j<=k):Room j A:=⟨r.hd,by have:=r.dp;lia,by have:=r.un;lia⟩
theorem Room.deeper(r:Room (k+1) A)(env:Env):Room k (A.deeper env) :=
 ⟨r.hd,by have:=r.dp;show A.depth+1+3*k+5<_;lia,by have:=r.un;show A.units+3+16*k+200<_;lia⟩
theorem Room.depth(r:Room k A):A.depth<g6:=by have:=r.dp;lia
theorem Room.units(r:Room k A):A.units+64<bR:=by have:=r.un;lia
theorem Room.units0(r:Room k A):A.units<bR:=by have:=r.un;lia
def tNil:TA:=λ_ H Q=>Q [] H
def gJd(ta:TE)(tr:TA):TA:=fun σ H Q=>ta σ H λx H1=>tr σ H1 λxs H2=>Q (x::xs) H2
section
variable{X:Cx}{e:Expr}{es:List Expr}{te:TE}{t:TA}{pos:Pos}
theorem bX0:PA X [] tNil:=λ_ _ _ _ H Q I h=>g7 ⟨[],H,I,.nil,h⟩
theorem aJj(ha:PE X e te)(hr:PA X es t)(hs:az (e::es) X.env=(false,eval e X.env)::az es X.env:=by rfl):PA X (e::es) (gJd te t):=by
 intro pos pins s σ H Q I h;rw[hs];refine fK (thn (ha pins s σ H _ I h) λu s1 ⟨x,H1,G,j,B⟩=>?_);exact thn (hr pos pins s1 σ H1 _ G B) λus s2 ⟨xs,H2,D,d,z⟩=>⟨x::xs,H2,D,.cons j d,z⟩
def tTup(t:TA):TE:=fun σ H Q=>t σ H λxs H1=>xs.length<=sizeLine/\∀p,H1 p=none->Q (.ref p) (upd H1 p (.tup xs))
def tLst(t:TA):TE:=fun σ H Q=>t σ H λxs H1=>xs.length<=sizeLine/\∀p,H1 p=none->Q (.ref p) (upd H1 p (.lst xs))
theorem fJq(h:PA X es t):PE X (.Tuple es x1 pos) (tTup t):=by
 intro pins s σ H Q I j;refine wpAny_Tuple_spliced (thn (h pos pins s σ H _ I j) λus s1 ⟨xs,H1,d,r,z,q⟩=>⟨by rw[<- r.length];exact z,?_⟩)
 have hf:=d.hok.fresh (am _);refine⟨.ref s1.heap.objs.size,upd H1 s1.heap.objs.size (.tup xs),d.laid (λb u e=>af _ e) (am _) ?_,rfl,q _ hf⟩;exact⟨z,us,r,⟨_,au _ rfl,rfl,_,rfl⟩,bJn⟩
theorem fJr(h:PA X es t):PE X (.List es pos) (tLst t):=by
 intro pins s σ H Q I j;refine wpAny_List_spliced (thn (h pos pins s σ H _ I j) λus s1 ⟨xs,H1,d,r,z,q⟩=>⟨by rw[<- r.length];exact z,?_⟩)
 have hf:=d.hok.fresh (am _);refine⟨.ref s1.heap.objs.size,upd H1 s1.heap.objs.size (.lst xs),d.laid (λb u e=>af _ e) (am _) ?_,rfl,q _ hf⟩;exact⟨z,us,0,r,au _ rfl⟩
end
abbrev Sp:=List V->Hp->VK->XK->Prop
abbrev CXT:=List Env->Hp->ai->XK->ad->ai->Prop
structure Env0(P:aA)(w:aO)(K:ar)(mg:Str->Option ad)(base:bd)(A:aW)(outer:List Env)(s:ai)(H:Hp):Prop where
 frames:A.frames=some outer
 gd:A.guards=some []
 mod:Mod K mg base
 bs:∀b o,base.get? b=some o->s.heap.get? b=some o/\H b=none
 bsz:base.objs.size<=s.heap.objs.size
 funs:s.heap.FunFrames base outer
 frf:∀b∈frs outer,H b=none
 hok:HOk P w H s.heap
 bare:jH s.gens
def CE(outer:List Env)(P:aA)(w:aO)(H:Hp)(s:ai)(Q:VK)(u:ad)(s':ai):Prop :=
 ∃v H',s'.os=s.os/\jH s'.gens/\Un (frs outer) [] H H' s.heap s'.heap/\HOk P w H' s'.heap/\RelV v u/\Q v H'
def CR(CX:CXT)(outer:List Env)(P:aA)(w:aO)(H:Hp)(s:ai)(Q:VK)(E:XK)(r:Result)(s':ai):Prop :=
 match r with
 |.ok (.ret u)=>CE outer P w H s Q u s'
 |.ok _=>False
 |.error e=>CX outer H s E e s'
structure FnOk(P:aA)(w:aO)(K:ar)(mg:Str->Option ad)(base:bd)(CX:CXT)(k:Nat)(f:Addr)(fd:dz)(ps:List Str)(sp:Sp):Prop where
 len:∀vs H Q E,sp vs H Q E->vs.length=ps.length
 run:∀(A:aW) (outer:List Env) (s:ai) (H:Hp) (args:Args) (us:List ad) (vs:List V) (Q:VK) (E:XK),Room k A->Env0 P w K mg base A outer s H->BindsTo s fd args (ps.zip us)->Vals vs us->sp vs H Q E ->
  fv (aE P w) A (.call (.ref f) args) (CR CX outer P w H s Q E) s
theorem FnOk.mono{K:ar}(F:FnOk P w K mg base CX j f fd ps sp)(h:j<=k) :
  FnOk P w K mg base CX k f fd ps sp:=⟨F.len,λA outer s H args us vs Q E d=>F.run A outer s H args us vs Q E (d.mono h)⟩
section
variable{X:Cx}{pins:List (Addr×Obj)}{σ:St}{H:Hp}{s s':ai}
theorem Inv.env0(I:Inv X pins σ H s):Env0 X.prog X.w X.K X.mg X.base X.A X.stack s H :=
 ⟨I.ok.frames,I.ok.gd,I.ok.mod,I.bs,aH I.ok.bsz I.sz,I.stack,I.stkFree,I.hok,I.bare⟩
theorem Inv.after(I:Inv X pins σ H s)(h:CE X.stack X.prog X.w H s Q u s'):EP X pins σ Q u s':=by
 obtain⟨v,H',os,bare,un,hok,r,q⟩:=h;obtain⟨B,g,d,t,j⟩:=s';obtain rfl:j=s.os:=os;exact⟨v,H',I.call un hok bare (λb z=>absurd z (by simp)),r,q⟩
end
def fJs(sp:Sp)(dvs:List V)(E:XK)(t:TA):TE:=fun σ H Q=>t σ H λvs H1=>sp (vs++dvs) H1 Q E
def Binds(K:ar)(fd:dz)(ps:List Str)(ds:List ad):Prop :=
 ∀(s:ai) (us:List ad),K.In s.heap->(us++ds).length=ps.length->BindsTo s fd ⟨us,[]⟩ (ps.zip (us++ds))
theorem Binds.all{K:ar}(h:∀us:List ad,us.length=ps.length->bindArgs fd ⟨us,[]⟩=pure (ps.zip us)):Binds K fd ps []:=λs us _ hl=>by
 rw[cR] at hl ⊢;exact .of_eq (h us hl)
def dQn(CX:CXT)(X:Cx)(E:XK):Prop:=∀(pins:List (Addr×Obj)) (σ:St) (H:Hp) (s:ai) (e:ad) (s':ai),Inv X pins σ H s->CX X.stack H s E e s'->X.xe e s'
section
variable{X:Cx}{CX:CXT}{k:Nat}{f C:Addr}{fd:dz}{ps:List Str}{sp:Sp}{dvs:List V}{ds:List ad}{E:XK}{x m:Str}{p pos apos:Pos}{e o:Expr}{es:List Expr}{ta:TE}{t:TA}
theorem fJt{σ:St}(F:FnOk X.prog X.w X.K X.mg X.base CX k f fd ps sp)(hr:Room k X.A)(hb:Binds X.K fd ps ds)(hd:Vals dvs ds)(hx:dQn CX X E)
  (I:Inv X pins σ H s) (r:Vals vs us) (h:sp (vs++dvs) H Q E):aD (aE X.prog X.w) X.A (call (.ref f) us) (EP X pins σ Q) X.xe s:=by
 have j:=r.append hd;have hl:(us++ds).length=ps.length:=by rw[<- j.length];exact F.len _ _ _ _ h
 refine wpAny_call (gp (F.run X.A X.stack s H ⟨us,[]⟩ (us++ds) (vs++dvs) Q E hr I.env0 (hb s us I.kIn hl) j h) λr s' d=>?_);cases r with
 |error e=>exact hx pins σ H s e s' I d
 |ok fl =>
  cases fl with
  |ret u=>exact I.after d
  |next=>exact dU d
  |brk=>exact dU d
  |cont=>exact dU d
theorem eJr(F:FnOk X.prog X.w X.K X.mg X.base CX k f fd ps sp)(hr:Room k X.A)(hg:Gl X x)(hm:X.mg x=some (.ref f))(hk:gg X.K (.ref f)=true)(hb:Binds X.K fd ps ds)(hd:Vals dvs ds)(hx:dQn CX X E)
  (ha:PA X (e::es) t) (hdb:(x==("__debug__":Str))=false:=by decide) (he:az (e::es) X.env=(false,eval e X.env)::az es X.env:=by rfl) (hpl:(cC pos (az es X.env)).any (·.1)=false:=by rfl) :
  PE X (.Call (.Name x p) (e::es) [] pos) (fJs sp dvs E t):=by
 intro pins s σ H Q I h;refine fL (ld_glob I hg hm ?_ hdb);refine PySem.W.callWith_K I.ok.mod.kin hk (thn (ha pos pins s σ H _ I h) λus s1 ⟨vs,H1,d,r,q⟩=>⟨d.kIn,?_⟩) he hpl;exact fJt F hr hb hd hx d r q
end
structure FnScope(N P:List Str)(sc:Scope):Prop where
 kind:sc.kind=.function
 co:sc.isCoroutine=false
 gen:sc.isGenerator=false
 nd:N.Nodup
 pre:N.take P.length=P
 par:∀x∈P,sc.names.lookup x=some .local\/sc.names.lookup x=some .cell
 nofree:∀y∈sc.names,y.2≠.free
theorem bJq{kindOf:Str->Option fU}:∀{binds:List (Str×ad)}{m:Str->Option ad},(∀v,(x,v)∉binds)->bindL kindOf binds m x=m x
 |[],_,_=>rfl
 |(n,v)::r,m,h=>by
  unfold bindL;rw[bJq λw hw=>h w (ak _ hw)]
  split
  ·have:x≠n:=by rintro rfl;exact h v aj
   simp[this]
  ·rfl
theorem bindC_out{kindOf:Str->Option fU}:∀{binds:List (Str×ad)}{m:Str->Option ad},(∀v,(x,v)∉binds)->bindC kindOf binds m x=m x
 |[],_,_=>rfl
 |(n,v)::r,m,h=>by
  unfold bindC;rw[bindC_out λw hw=>h w (ak _ hw)]
  split
  ·rfl
  ·have:x≠n:=by rintro rfl;exact h v aj
   simp[this]
theorem bindL_get{kindOf:Str->Option fU}:∀{P:List Str}{vs:List ad}{i:Nat}{m:Str->Option ad},P.Nodup->P[i]?=some x->vs[i]?=some v->kindOf x=some .local ->
  bindL kindOf (P.zip vs) m x=some v
 |[],_,_,_,_,h,_,_=>by simp at h
 |_::_,[],_,_,_,_,h,_=>by simp at h
 |p::P,w::vs,0,m,nd,h1,h2,d=>by
  simp at h1 h2;subst h1;subst h2;show bindL kindOf ((p,w)::P.zip vs) m p=_;unfold bindL;rw[bJq λv j=>(bA.mp nd).1 (iX j).1,if_pos d];simp
 |p::P,w::vs,i+1,m,nd,h1,h2,d=>by
  show bindL kindOf ((p,w)::P.zip vs) m x=_;exact bindL_get (bA.mp nd).2 (by simpa using h1) (by simpa using h2) d
theorem bJr{kindOf:Str->Option fU}:∀{P:List Str}{vs:List ad}{i:Nat}{m:Str->Option ad},P.Nodup->P[i]?=some x->vs[i]?=some v->kindOf x≠some .local ->
  bindC kindOf (P.zip vs) m x=some v
 |[],_,_,_,_,h,_,_=>by simp at h
 |_::_,[],_,_,_,_,h,_=>by simp at h
 |p::P,w::vs,0,m,nd,h1,h2,d=>by
  simp at h1 h2;subst h1;subst h2;show bindC kindOf ((p,w)::P.zip vs) m p=_;unfold bindC;rw[bindC_out λv j=>(bA.mp nd).1 (iX j).1,if_neg d];simp
 |p::P,w::vs,i+1,m,nd,h1,h2,d=>by
  show bindC kindOf ((p,w)::P.zip vs) m x=_;exact bJr (bA.mp nd).2 (by simpa using h1) (by simpa using h2) d
def start(N:List Str)(vs:List V):St:=vs.map some++jl (N.length-vs.length) none
def cxOf(CX:CXT)(P:aA)(w:aO)(K:ar)(mg:Str->Option ad)(base:bd)(N:List Str)(qual:Str)(scope:Scope)(f:Addr)(cd:ad)(A:aW)(outer:List Env)(s:ai)(H:Hp)(E:XK):Cx where
 prog:=P
 w:=w
 K:=K
 mg:=mg
 base:=base
 A:=A.deeper (jm qual scope s.heap.objs.size f cd)
 N:=N
 s₀:=s
 H₀:=H
 env:=jm qual scope s.heap.objs.size f cd
 outer:=outer
 stack:=jm qual scope s.heap.objs.size f cd::outer
 ex:=[]
 calm:=true
 fn:=λ_=>true
 pn:=[]
 xe:=λe s'=>aD (aE P w) (A.deeper (jm qual scope s.heap.objs.size f cd)) (leaving (jm qual scope s.heap.objs.size f cd) e) (λ_ s''=>CX outer H s E e s'') (λe' s''=>CX outer H s E e' s'') s'
theorem cZv{sc:Scope}(h:sc.names.lookup x=some .cell):∃c,(eS n sc.names []).lookup x=some c:=by
 have q:=kc sc.names n [] (.inl h);exact bn.mp q
theorem dQo{CX:CXT}{P:aA}{w:aO}{K:ar}{mg:Str->Option ad}{base:bd}{N ps:List Str}{qual:Str}{scope:Scope}{f:Addr}{cd:ad}{A:aW}{outer:List Env}{s s1:ai}{H:Hp}{E:XK}{us:List ad}{vs:List V}
  (S:FnScope N ps scope) (hd:A.handled=none) (e0:Env0 P w K mg base A outer s H) (hl:vs.length=ps.length) (r:Vals vs us)
  (x:InCallC s s.heap.objs.size (bindL (jm qual scope s.heap.objs.size f cd).kindOf (ps.zip us) λ_=>none) (eS (s.heap.objs.size+1) scope.names []) (bindC (jm qual scope s.heap.objs.size f cd).kindOf (ps.zip us) λ_=>none) s1) :
  Inv (cxOf CX P w K mg base N qual scope f cd A outer s H E) [] (start N vs) H s1:=by
 have L:ps.length<=N.length:=by have:=congrArg eY S.pre;rw[a7] at this;lia
 obtain⟨h1,U,rfl,G⟩:=x.done;have d:∀b:Addr,b∉(cxOf CX P w K mg base N qual scope f cd A outer s H E).ex:=λb z=>absurd (show b∈([]) from z) (by simp)
 refine⟨⟨e0.mod,S.kind,rfl,rfl,am _,λy z c h1 h2=>?_,λy j=>?_,λy c _ h=>?_,λ_=>hd,aW.frames_deeper e0.frames,e0.gd,.inr ⟨rfl,rfl⟩,λb z=>absurd z (d b),e0.bs,e0.bsz,λb _ _=>d b,λb z=>absurd z (d b),e0.funs,e0.frf⟩,
  rfl,e0.bare,Un.kept G,⟨_,x.toInCall.ns,λi y v h1 h2 Y=>?_⟩,λy c h=>⟨_,x.cell y c h⟩,e0.hok.fresh (am _),λy c h=>?_,λp D=>absurd (show p∈([]) from D) (by simp),e0.hok.kept G,?_⟩
 ·exact name_of_addr x.apart (fw h1) (fw h2)
 ·have j:=j;rcases j with j|j
  ·exact cZv j
  ·exact absurd rfl (S.nofree _ (fw j))
 ·exact gk (x.above y c (fw h))
 ·have hi:i<vs.length:=by
   unfold start at h2
   by_cases hi:i<vs.length
   ·exact hi
   ·rw[gh (by simpa using hi)] at h2
    rw[List.getElem?_replicate] at h2
    split at h2 <;> cases h2
  have O:vs[i]?=some v:=by
   unfold start at h2;rw[gu (by simpa using hi),aY] at h2
   cases e:vs[i]? with
   |none=>rw[e] at h2;cases h2
   |some a=>rw[e] at h2;cases h2;rfl
  obtain⟨u,hu,J⟩:=r.get O;have D:ps[i]?=some y:=by
   rw[<- S.pre,jO (by lia)];exact h1
  have B:ps.Nodup:=by rw[<- S.pre];exact S.nd.sublist (d8 _ _)
  refine⟨u,J,?_⟩;rcases S.par y (bS D) with k|k
  ·exact .inl ⟨k,bindL_get B D hu k⟩
  ·obtain⟨c,e⟩:=cZv k;refine .inr ⟨.inl k,c,e,?_⟩;have q:=x.cell y c e;rw[bJr B D hu (by show scope.names.lookup y≠_;rw[k];decide)] at q
   exact q
 ·exact e0.hok.fresh (gk (x.above y c (fw h)))
 ·unfold start;show _=N.length;rw[ax,ae,List.length_replicate];lia
theorem fJu{CX:CXT}{P:aA}{w:aO}{K:ar}{mg:Str->Option ad}{base:bd}{k:Nat}{f:Addr}{name qual:Str}{params:Arguments}{body:List Stmt}{scope:Scope}{dV kV doc pm cdv ct oc:ad}{an od:Option Addr}
  {osl:Array (Option ad)}{N ps:List Str}{sp:Sp}(lk:K.lookup f=some ⟨oc,od,.func (eZ name qual params body scope dV kV doc pm an cdv ct),osl⟩) (hcd:g8 K cdv qual=true) (S:FnScope N ps scope)
  (len:∀vs H Q E,sp vs H Q E->vs.length=ps.length)
  (hbody:∀ (A:aW) (outer:List Env) (s:ai) (H:Hp) (vs:List V) (Q:VK) (E:XK),Room k (A.deeper (jm qual scope s.heap.objs.size f cdv))->sp vs H Q E ->
   ∃t,PSs (cxOf CX P w K mg base N qual scope f cdv A outer s H E) body t/\t {nx:=λ_ H'=>Q .non H',rt:=Q} (start N vs) H) :
  FnOk P w K mg base CX (k+1) f (eZ name qual params body scope dV kV doc pm an cdv ct) ps sp:=by
 refine⟨len,λA outer s H args us vs Q E D z Y r j=>?_⟩;have hl:=len _ _ _ _ j;have G:=z.mod.kin.keeps λb o e=>(z.bs b o e).1;have lim:=z.mod.nolimit.keeps λb o e=>(z.bs b o e).1;have d:∀y∈ps.zip us,scope.names.lookup y.1=some .local\/(scope.names.lookup y.1=some .cell/\((eS (s.heap.objs.size+1) scope.names []).lookup y.1).isSome=true):=λ⟨n,v⟩ L=>by
  rcases S.par n (iX L).1 with q|q
  ·exact .inl q
  ·exact .inr ⟨q,kc _ _ _ (.inl q)⟩
 refine codeAny_call_function D.depth (G _ _ lk) rfl S.co S.gen rfl (PySem.W.codeRec_of G hcd) (Y _ _ _ _ ?_);refine wpAny_newFunctionEnv_cells S.kind d λenv he s1 x=>?_;subst he;refine⟨lim.keeps x.toInCall.keep,codeAny_func ?_⟩;obtain⟨t,O,U⟩:=hbody A outer s H vs Q E (D.deeper _) j;have I:Inv (cxOf CX P w K mg base N qual scope f cdv A outer s H E) [] (start N vs) H s1:=dQo S D.hd z hl r x;refine cO (O [] s1 (start N vs) H _ I U) (λfl s' hs=>?_) λe s' hs=>hs;have fin:∀{σ':St}{H':Hp}{v:V}{u:ad},Inv (cxOf CX P w K mg base N qual scope f cdv A outer s H E) [] σ' H' s'->RelV v u->Q v H'->CE outer P w H s Q u s' :=
  λ{σ' H' v u} J B q=>⟨v,H',J.os,J.bare,J.base,J.hok,B,q⟩
 cases fl with
 |ret u =>
  obtain⟨v,σ',H',J,B,q⟩:=hs;exact fin J B q
 |next =>
  obtain⟨σ',H',J,q⟩:=hs;exact fin (v:=V.non) J rfl q
 |brk =>
  obtain⟨_,_,_,q⟩:=hs;exact dU q
 |cont =>
  obtain⟨_,_,_,q⟩:=hs;exact dU q
section
variable{X:Cx}{x:Str}{p pos:Pos}{e:Expr}{es:List Expr}{t:TA}{id T:String}{r:List V->Hp->VK->Prop}
def tCB(r:List V->Hp->VK->Prop)(t:TA):TE:=fun σ H Q=>t σ H λvs H1=>r vs H1 Q
theorem bQ8(hc:CallR X (.builtin id) r)(hg:Gl X x)(hm:X.mg x=none)(hv:cG x=some (.builtin id))(ha:PA X (e::es) t)(hn:x ≠ "__name__":=by decide)(hdb:(x==("__debug__":Str))=false:=by decide)
  (he:az (e::es) X.env=(false,eval e X.env)::az es X.env:=by rfl) (hpl:(cC pos (az es X.env)).any (·.1)=false:=by rfl):PE X (.Call (.Name x p) (e::es) [] pos) (tCB r t):=by
 intro pins s σ H Q I h;refine fL (ld_blt I hg hm hv ?_ hn hdb);exact iB (thn (ha pos pins s σ H _ I h) λus s1 ⟨vs,H1,z,d,j⟩=>hc pins s1 σ H1 vs us Q z d j) he hpl
theorem bQh(hc:CallR X (.type T) r)(hg:Gl X x)(hm:X.mg x=none)(hv:cG x=some (.type T))(ha:PA X (e::es) t)(hn:x ≠ "__name__":=by decide)(hdb:(x==("__debug__":Str))=false:=by decide)
  (he:az (e::es) X.env=(false,eval e X.env)::az es X.env:=by rfl) (hpl:(cC pos (az es X.env)).any (·.1)=false:=by rfl):PE X (.Call (.Name x p) (e::es) [] pos) (tCB r t):=by
 intro pins s σ H Q I h;refine fL (ld_blt I hg hm hv ?_ hn hdb);exact ew (thn (ha pos pins s σ H _ I h) λus s1 ⟨vs,H1,z,d,j⟩=>hc pins s1 σ H1 vs us Q z d j) he hpl
end
end L2
namespace HT
open PySem PyProof.Rows
section
variable{prog:aA}{w:aO}{A:aW}{E:ad->ai->Prop}{s:ai}
theorem cat_tup(ht:gV s.heap t vs.toArray)(hb:gV s.heap b ws.toArray)(hv:vs≠[])
  (h1:ws=[]->Q (.ref t) s) (h2:ws≠[]->Q (.ref s.heap.objs.size) {s with heap:=s.heap.push {cls:=.type "tuple",data:=.seq (vs++ws).toArray}})
  (hsz:vs.length+ws.length<=sizeLine):aD (aE prog w) A (eX .Add (.ref t) (.ref b)) Q E s:=by
 obtain⟨⟨cls,dd,data,sl⟩,D,J,n,hd⟩:=id ht;obtain⟨⟨L,B,data2,j⟩,d,z,G,hd2⟩:=id hb;simp only at J hd z hd2;subst J hd z hd2;have e:vs.toArray++ws.toArray=(vs++ws).toArray:=by simp
 by_cases hw:ws=[]
 ·exact ke ⟨_,D,rfl⟩ ⟨_,d,rfl⟩ jX seq_tuple_add g9 gW (gD _ _)
   (tuple_addW1 t b vs.toArray ws.toArray n G dd B sl j (by simpa using hv) (by simp[hw])) ⟨D,d,h1 hw⟩
 ·refine ke ⟨_,D,rfl⟩ ⟨_,d,rfl⟩ jX seq_tuple_add g9 gW (gD _ _)
   (tuple_addW2 t b vs.toArray ws.toArray n G dd B sl j (by simpa using hv) (by simpa using hw) (by rw[aq,aq];exact hsz)) ⟨D,d,?_⟩
  rw[e];exact h2 hw
def sIx(n d:Nat):Option Int->Nat
 |none=>d
 |some v=>if v<0 then (v+(n:Int)).toNat else min v.toNat n
theorem sIx_none(n d:Nat):sIx n d none=d:=rfl
theorem sIx_nat(n d k:Nat):sIx n d (some k)=min k n:=by
 show(if k<0 then ((k:Int)+n).toNat else min (k:Int).toNat n)=min k n
 rw[if_neg (by lia),cr]
theorem sIx_le(n d:Nat)(hd:d<=n)(o:Option Int):sIx n d o<=n:=by
 cases o with
 |none=>exact hd
 |some v =>
  show(if v<0 then (v+n).toNat else min v.toNat n)<=n
  by_cases j:v<0
  ·rw[if_pos j];lia
  ·rw[if_neg j];exact Nat.min_le_right _ _
theorem dQp(v:Int)(n d:Nat):(if v<0 then max (v+n) 0 else min v n)=((sIx n d (some v))):=by
 show(if v<0 then max (v+n) 0 else min v n)=(((if v<0 then (v+n).toNat else min v.toNat n):Nat))
 by_cases j:v<0
 ·simp only[if_pos j];lia
 ·simp only[if_neg j];lia
theorem cJm(lo hi:Option Int)(n:Nat):gv lo hi 1 n=(((sIx n 0 lo):Int),((sIx n n hi):Int)):=by
 have h1:¬ (1<0):=by lia
 unfold gv;simp only[h1,if_false];refine Prod.ext ?_ ?_
 ·cases lo with
  |none=>rfl
  |some v=>exact dQp v n 0
 ·cases hi with
  |none=>rfl
  |some v=>exact dQp v n n
theorem cJn(i j:Nat):cN i j 1=j-i:=by
 unfold cN;have h1:1>0:=by lia
 simp only[h1,if_true,kf]
 split <;> lia
theorem aJk(p:kg v o)(h:Q o s):aD (aE prog w) A (cX.Slice.slicePartIndex v) Q E s:=by
 cases p with
 |none=>exact jn h
 |int i t=>exact slicePart_int h
theorem sliceApplied_gen{lo hi:Option Int}{n:Nat}(hs:s.heap.IsSliceOf sl vl vu .none)(pl:kg vl lo)(pu:kg vu hi)
  (h:Q (((sIx n 0 lo)),1,sIx n n hi-sIx n 0 lo) s):aD (aE prog w) A (dH (.ref sl) (pure n)) Q E s:=by
 obtain⟨os,d,z,j⟩:=id hs;refine aa (aa (eF d j rfl (aa (eF d j rfl (aa (eF d j rfl (ag ?_)))))));refine aa (jn ?_);rw[if_neg (by decide)]
 refine aa (aJk pl (aa (aJk pu (aa (ag ?_)))));show aD _ _ (match gv lo hi 1 n with|(lo,hi)=>pure (lo,(1:Int),cN lo hi 1)) _ _ s
 rw[cJm lo hi n];show aD _ _ (pure (((sIx n 0 lo):Int),1,cN ((sIx n 0 lo)) ((sIx n n hi)) 1)) _ _ s;rw[cJn];exact ag h
theorem eQb(xs:Array ad)(i k:Nat):((aI k).filterMap λ(m:Nat)=>xs[((i:Int)+m*1).toNat]?).toArray=((xs.toList.drop i).take k).toArray:=by
 have e:(λ(m:Nat)=>xs[((i:Int)+m*1).toNat]?)=λm=>xs[i+m]?:=by
  funext m
  have:((i:Int)+m*1).toNat=i+m:=by lia
  rw[this]
 rw[e]
 have:=pick_run xs i k
 rw[jo] at this;have d:((λx=>xs[x]?)∘λx=>i+x)=λm=>xs[i+m]?:=rfl;rw[d] at this;rw[this]
theorem getItem_tuple_cut{lo hi:Option Int}(ht:gV s.heap t items)(hs:s.heap.IsSliceOf sl vl vu .none)(pl:kg vl lo)(pu:kg vu hi)
  (hw:¬ (sIx items.size 0 lo=0/\sIx items.size items.size hi=items.size))
  (h:Q (.ref s.heap.objs.size) {s with heap:=s.heap.push {cls:=.type "tuple",data:=.seq ((items.toList.drop (sIx items.size 0 lo)).take (sIx items.size items.size hi-sIx items.size 0 lo)).toArray}})
  (hsz:items.size<=sizeLine):aD (aE prog w) A (hU (.ref t) (.ref sl)) Q E s:=by
 have d:sizeOk (.seq ((items.toList.drop (sIx items.size 0 lo)).take (sIx items.size items.size hi-sIx items.size 0 lo)).toArray):=by
  show((items.toList.drop (sIx items.size 0 lo)).take (sIx items.size items.size hi-sIx items.size 0 lo)).toArray.size<=sizeLine;rw[aq,a7,bQ,aT];lia
 have N:sIx items.size items.size hi<=items.size:=sIx_le _ _ (am _) hi;obtain⟨os,j,B,G⟩:=id hs;have D:s.TypeIs (.ref sl) "slice":=⟨os,j,B⟩;unfold hU
 try with_reducible refine bF ?_
 first|refine aa (ag ?_)|skip
 refine aa (wpAny_sequenceKey ht.typeIs (by decide) ?_)
 refine aa (dA ht.typeIs cg
  (cU cg ht.typeIs entry_tuple_getitem ?_ (args_tuple_getitem _ _)))
 show aD _ _ (jp (.ref t)>>=_) _ _ s;refine aa (tupleItemsOf_ ht ?_);refine aa (hW D ?_);rw[if_pos (by decide)]
 refine aa (sliceApplied_gen hs pl pu ?_);have z:¬ ((((sIx items.size 0 lo):Int)==0&&(1:Int)==1&&(sIx items.size items.size hi-sIx items.size 0 lo)==items.size)=true):=by
  intro q;rw[aV,aV] at q;have L:=gX q.1.1;have J:=gX q.2;exact hw ⟨by lia,by lia⟩
 show aD _ _ (if (((sIx items.size 0 lo):Int)==0&&1==1&&(sIx items.size items.size hi-sIx items.size 0 lo)==items.size)=true then _ else _) _ _ s
 rw[if_neg z,eQb]
 first
  |exact aa (bC (ag ⟨_,rfl,ag h⟩) d)
  |exact aa (bC (aa (ag (ag ⟨_,rfl,ag h⟩))) d)
  |exact aa (aa (bC (ag (ag ⟨_,rfl,ag h⟩)) d))
  |exact aa (aa (bC (ag ⟨_,rfl,ag h⟩) d))
end
end HT
namespace L2
open PySem PySem.Spec PyProof.Rows
abbrev TO:=St->Hp->(Option Int->Hp->Prop)->Prop
def PO(X:Cx)(e:Option Expr)(t:TO):Prop :=
 ∀(pins:List (Addr×Obj)) (s:ai) (σ:St) (H:Hp) (Q:Option Int->Hp->Prop),Inv X pins σ H s->t σ H Q ->
  aD (aE X.prog X.w) X.A (evalPart e X.env) (λu s'=>∃o H',Inv X pins σ H' s'/\kg u o/\Q o H') X.xe s
def eJs:TO:=λ_ H Q=>Q none H
def gJe(t:TE):TO:=fun σ H Q=>t σ H λx H1=>∃i,x=.int i/\Q (some i) H1
theorem cJo:∀{us:List ad},Vals (ns.map V.int) us->kh us ns:=by
 induction ns with
 |nil=>intro us r;rw[e5] at r;cases r;exact .nil
 |cons n ns z =>
  intro us r;rw[a8] at r;cases r with
  |cons j d =>
   obtain⟨t,e⟩:=j;subst e;exact .cons n t (z d)
section
variable{X:Cx}{e:Expr}{te:TE}{lo hi:Option Expr}{tl th:TO}{pos p2:Pos}
theorem eJt:PO X none eJs:=by
 intro pins s σ H Q I h;rw[evalPart_none];exact ag ⟨none,H,I,.none,h⟩
theorem eJu(h:PE X e te):PO X (some e) (gJe te):=by
 intro pins s σ H Q I hw;rw[evalPart_some];refine thn (h pins s σ H _ I hw) λu s1 ⟨x,H1,z,d,j⟩=>?_;obtain⟨i,rfl,q⟩:=j;obtain⟨t,rfl⟩:=d;exact⟨some i,H1,z,.int i t,q⟩
def SlR(X:Cx)(r:V->Option Int->Option Int->Hp->VK->Prop):Prop :=
 ∀(pins:List (Addr×Obj)) (s:ai) (σ:St) (H:Hp) (x:V) (v vl vu:ad) (lo hi:Option Int) (sl:Addr) (Q:VK),Inv X pins σ H s->RelV x v->s.heap.IsSliceOf sl vl vu .none->kg vl lo->kg vu hi->r x lo hi H Q ->
  ∃T id,typeLookup (.type T) "__getitem__"=pure (some (.builtin id))/\s.TypeIs v T/\aD (aE X.prog X.w) X.A (hU v (.ref sl)) (EP X pins σ Q) X.xe s
theorem SlR.or(h:SlR X r)(h':SlR X r'):SlR X (λx lo hi H Q=>r x lo hi H Q\/r' x lo hi H Q):=by
 intro pins s σ H x v j d lo hi sl Q I z hs pl pu q;rcases q with q|q
 ·exact h pins s σ H x v j d lo hi sl Q I z hs pl pu q
 ·exact h' pins s σ H x v j d lo hi sl Q I z hs pl pu q
def tSl(r:V->Option Int->Option Int->Hp->VK->Prop)(te:TE)(tl th:TO):TE:=fun σ H Q=>te σ H λx H1=>tl σ H1 λl H2=>th σ H2 λu H3=>r x l u H3 Q
theorem eQc(hr:SlR X r)(he:PE X e te)(hl:PO X lo tl)(hu:PO X hi th):PE X (.Subscript e (.Slice lo hi none p2) pos) (tSl r te tl th):=by
 intro pins s σ H Q I h;refine Subscript_ (thn (he pins s σ H _ I h) λv s1 ⟨x,H1,I1,B,J⟩=>?_);refine wpAny_Slice (thn (hl pins s1 σ H1 _ I1 J) λj s2 ⟨l,H2,Z,pl,G⟩=>thn (hu pins s2 σ H2 _ Z G) λd s3 ⟨u,z,Y,pu,D⟩=>?_);rw[evalPart_none];refine ag ?_;have U:Inv X pins σ z {s3 with heap:=s3.heap.push {cls:=.type "slice",data:=.fields #[j,d,.none]}}:=Y.kept λb ob q=>af _ q
 obtain⟨T,id,O,L,N⟩:=hr pins {s3 with heap:=s3.heap.push {cls:=.type "slice",data:=.fields #[j,d,.none]}} σ z x v j d l u s3.heap.objs.size Q U B (li ..) pl pu D;exact tail_any L O N (by with_unfolding_all rfl)
def cutV(xs:List V)(lo hi:Option Int):List V:=(xs.drop (HT.sIx xs.length 0 lo)).take (HT.sIx xs.length xs.length hi-HT.sIx xs.length 0 lo)
theorem bQi(xs:List V)(lo hi:Option Int):(cutV xs lo hi).length<=xs.length:=by
 unfold cutV;rw[a7,bQ];lia
def rSlT(K:ar):V->Option Int->Option Int->Hp->VK->Prop:=λx lo hi H Q=>∃a xs,x=.ref a/\SqT K H a xs /\
 ¬ (HT.sIx xs.length 0 lo=0/\HT.sIx xs.length xs.length hi=xs.length)/\∀p,H p=none->Q (.ref p) (upd H p (.tup (cutV xs lo hi)))
theorem fJv:SlR X (rSlT X.K):=by
 intro pins s σ H x v G D lo hi sl Q I rx hs pl pu h;obtain⟨a,xs,rfl,B,hw,q⟩:=h;cases rx;obtain⟨d,r,z,j⟩:=I.tuple B;have hlen:d.toArray.size=xs.length:=by rw[aq];exact r.length.symm
 refine⟨"tuple",_,cg.lookup,z.typeIs,?_⟩;refine HT.getItem_tuple_cut z hs pl pu (by rw[hlen];exact hw) ?_ (by rw[hlen];exact j)
 rw[hlen];refine⟨.ref s.heap.objs.size,_,I.laid (λb J q=>af _ q) (am _) ?_,rfl,q _ (I.hok.fresh (am _))⟩;exact⟨aH (bQi xs lo hi) j,_,(r.drop (HT.sIx xs.length 0 lo)).take (HT.sIx xs.length xs.length hi-HT.sIx xs.length 0 lo),gV.new _ _,bJn⟩
def eJv(K:ar):R2:=λx y H Q=>∃a b xs ys,x=.ref a/\y=.ref b/\SqT K H a xs/\SqT K H b ys/\xs≠[]/\xs.length+ys.length<=sizeLine /\
 (ys=[]->Q (.ref a) H)/\(ys≠[]->∀p,H p=none->Q (.ref p) (upd H p (.tup (xs++ys))))
theorem Vals.nil_iff(r:Vals xs us):us=[]↔xs=[]:=by
 cases r with
 |nil=>simp
 |cons _ _=>simp
theorem eJw:OpR X (eX .Add) (eJv X.K):=by
 intro pins s σ H x y v u Q I rx ry h;obtain⟨a,b,xs,ys,rfl,rfl,Y,U,O,D,J,G⟩:=h;cases rx;cases ry;obtain⟨N,j,L,_⟩:=I.tuple Y;obtain⟨B,d,p2,_⟩:=I.tuple U;refine HT.cat_tup L p2 (λz=>O (j.nil_iff.mp z)) (λz=>⟨.ref a,H,I,rfl,J (d.nil_iff.mp z)⟩) (λz=>?_) (by rw[<- j.length,<- d.length];exact D)
 refine⟨.ref s.heap.objs.size,_,I.laid (λb Z q=>af _ q) (am _) ?_,rfl,G (λw=>z (d.nil_iff.mpr w)) _ (I.hok.fresh (am _))⟩;exact⟨by rw[ax];exact D,_,j.append d,gV.new _ _,bJn⟩
end
def ixN(n:Nat)(i:Int):Option Nat:=if 0<=i then (if i<n then some i.toNat else none) else if -(n:Int)<=i then some (i+n).toNat else none
def atI{α:Type}(xs:List α)(i:Int):Option α:=(ixN xs.length i).bind λj=>xs[j]?
theorem cQr(h:ixN n i=some j):seqIndex? i n=some j/\j<n/\-n<=i/\i<n:=by
 unfold ixN at h
 by_cases h0:0<=i
 ·rw[if_pos h0] at h
  by_cases h1:i<n
  ·rw[if_pos h1] at h;have e:=aQ h;exact⟨by rw[seqIndex_of h0 h1,e],by lia,by lia,h1⟩
  ·rw[if_neg h1] at h;cases h
 ·rw[if_neg h0] at h
  by_cases h1:-n<=i
  ·rw[if_pos h1] at h;have e:=aQ h;exact⟨by rw[seqIndex_neg (by lia) h1,e],by lia,h1,by lia⟩
  ·rw[if_neg h1] at h;cases h
theorem cQs{xs:List α}{v:α}(h:atI xs i=some v):∃j,seqIndex? i xs.length=some j/\xs[j]?=some v/\j<xs.length/\-xs.length<=i/\i<xs.length:=by
 unfold atI at h;cases e:ixN xs.length i with
 |none=>rw[e] at h;cases h
 |some j =>
  rw[e] at h;obtain⟨h1,h2,z,d⟩:=cQr e;exact⟨j,h1,h,h2,z,d⟩
theorem aZa{xs:List α}{j:Nat}{v:α}(h:xs[j]?=some v):atI xs j=some v:=by
 have d:=(a9.mp h).1;have e:ixN xs.length j=some j:=by
  unfold ixN;rw[if_pos (by lia),if_pos (by lia)];simp
 unfold atI;rw[e];exact h
def PlainIx(b:Expr):Prop:=∀o i,subscripted b false o i=operate [o,i] (hU o i)
def IxR(X:Cx)(r:R2):Prop :=
 ∀(value slice:Expr) (pins:List (Addr×Obj)) (s:ai) (σ:St) (H:Hp) (x y:V) (v u:ad) (Q:VK),Inv X pins σ H s->RelV x v->RelV y u->r x y H Q ->
  subscripted slice false v u=operate [v,u] (hU v u)->aD (aE X.prog X.w) X.A (subscriptTail value slice v u) (EP X pins σ Q) X.xe s
def MtR(X:Cx)(id:String)(r:V->List V->Hp->VK->Prop):Prop :=
 ∀(pins:List (Addr×Obj)) (s:ai) (σ:St) (H:Hp) (x:V) (xs:List V) (v:ad) (us:List ad) (Q:VK),Inv X pins σ H s->RelV x v->Vals xs us->r x xs H Q ->
  aD (aE X.prog X.w) X.A (call (.builtin id) (v::us)) (EP X pins σ Q) X.xe s
section
variable{X:Cx}{a b:Expr}{ta tb:TE}{pos:Pos}
theorem IxR.or(h:IxR X r)(h':IxR X r'):IxR X (λx y H Q=>r x y H Q\/r' x y H Q):=by
 intro value slice pins s σ H x y v u Q I j d q hs;rcases q with q|q
 ·exact h value slice pins s σ H x y v u Q I j d q hs
 ·exact h' value slice pins s σ H x y v u Q I j d q hs
theorem pe_ix(hr:IxR X r)(ha:PE X a ta)(hb:PE X b tb)(hs:PlainIx b):PE X (.Subscript a b pos) (tOp r ta tb):=by
 intro pins s σ H Q I h;exact Subscript_ (binT ha hb I h λv u s2 x y H2 z j d q=>hr a b pins s2 σ H2 x y v u Q z j d q (hs _ _))
def rIxL(K:ar):R2:=λx y H Q=>∃p xs i v,x=.ref p/\y=.int i/\SqL K H p xs/\atI xs i=some v/\Q v H
def rIxT(K:ar):R2:=λx y H Q=>∃p xs i v,x=.ref p/\y=.int i/\SqT K H p xs/\atI xs i=some v/\Q v H
def rIxS:R2:=λx y H Q=>∃z i c,x=.str z/\y=.int i/\z.length<=sizeLine/\atI z.cps.toList i=some c/\Q (.str ⟨#[c]⟩) H
theorem ix_list:IxR X (rIxL X.K):=by
 intro value slice pins s σ H x y v u Q I rx J h hs;obtain⟨p,xs,i,z,rfl,rfl,L,he,q⟩:=h;cases rx;obtain⟨t,rfl⟩:=J;obtain⟨B,r,pl,U⟩:=I.list L;obtain⟨j,h1,h2,Z,O,N⟩:=cQs he;obtain⟨w,G,d⟩:=r.get h2;have hl:=r.length;have Y:=bZz;have fin:EP X pins σ Q w s:=⟨z,H,I,d,q⟩
 by_cases h0:0<=i
 ·have D:i.toNat=j:=by
   rw[seqIndex_of h0 N] at h1;exact aQ h1
  exact item_listR pl.isList h0 (by lia) (by rw[D];simpa using G) fin hs
 ·have D:(i+B.toArray.size).toNat=j:=by
   rw[seqIndex_neg (by lia) O] at h1
   rw[aq,<- hl];exact aQ h1
  exact subscriptTail_builtinR pl.isList.typeIs jI.lookup
   (wpAny_getItem_list_neg pl.isList (by lia) (by rw[aq] <;> lia) (by lia) (by rw[D];simpa using G) ⟨rfl,fin⟩) hs
theorem ix_tup:IxR X (rIxT X.K):=by
 intro value slice pins s σ H x y v u Q I rx B h hs;obtain⟨p,xs,i,z,rfl,rfl,G,he,q⟩:=h;cases rx;obtain⟨t,rfl⟩:=B;obtain⟨D,r,pl,L⟩:=I.tuple G;obtain⟨j,h1,h2,Y,U,O⟩:=cQs he;obtain⟨w,J,d⟩:=r.get h2;have hl:=r.length;have N:=bZz;have fin:EP X pins σ Q w s:=⟨z,H,I,d,q⟩;exact subscriptTail_builtinR pl.typeIs slot_tuple_getitem.lookup
  (getItem_tuple pl (by lia) (by lia) (by rw[aq,<- hl];exact h1) (by simpa using J) ⟨rfl,fin⟩) hs
theorem fJw:IxR X rIxS:=by
 intro value slice pins s σ H x y v u Q I B d h hs;obtain⟨z,i,c,rfl,rfl,O,he,q⟩:=h;obtain⟨t,rfl⟩:=B;obtain⟨N,rfl⟩:=d;obtain⟨j,h1,h2,Y,G,D⟩:=cQs he;have hl:z.cps.toList.length=z.length:=by simp[Str.length]
 rw[hl] at h1 G D;have U:=bZz;exact tail_any (typeIs_str s z t) slot_str_getitem.lookup (getItem_str (by
  have L:decide (i < -(2^63))=false:=decide_eq_false (by lia)
  have J:decide (i>=2^63)=false:=decide_eq_false (by lia)
  rw[L,J,Bool.or_false]) (by rw[h1];simpa using h2) ⟨.str ⟨#[c]⟩,H,I.tok _,⟨_,rfl⟩,q⟩) hs
def rIx(K:ar):R2:=λx y H Q=>rIxL K x y H Q\/rIxT K x y H Q\/rIxS x y H Q
theorem fJx:IxR X (rIx X.K):=ix_list.or (ix_tup.or fJw)
theorem cJp(its:List ad)(n j:Nat)(u:ad):bw (·.setIfInBounds j u) {cls:=.type "list",data:=.seq its.toArray n}={cls:=.type "list",data:=.seq (its.set j u).toArray n}:=by
 simp[bw]
theorem Inv.lst{σ:St}(I:Inv X pins σ H s)(h:H p=some (.lst xs)) :
  ∃(its:List ad) (n:Nat),Vals xs its/\s.heap.get? p=some {cls:=.type "list",data:=.seq its.toArray n}/\xs.length<=sizeLine:=by
 obtain⟨z,its,n,r,e⟩:=I.hok p _ h;exact⟨its,n,r,e,z⟩
theorem Inv.lstUpd{σ:St}{its its':List ad}(I:Inv X pins σ H s)(h:H p=some (.lst xs))
  (ho:s.heap.get? p=some {cls:=.type "list",data:=.seq its.toArray n}) (hf:f {cls:=.type "list",data:=.seq its.toArray n}={cls:=.type "list",data:=.seq its'.toArray n'}) (r:Vals ys its') (hz:ys.length<=sizeLine) (t:Nat) :
  Inv X pins σ (upd H p (.lst ys)) {s with heap:=s.heap.update p f,toks:=t}:=by
 have e:(s.heap.update p f).get? p=some {cls:=.type "list",data:=.seq its'.toArray n'}:=by
  rw[cF f ho (by rw[hf] <;> rfl),hf]
 refine I.write (by rw[h];trivial) (.inl rfl) (λb u d q=>(bg _ _ (bX d)).trans q) ⟨_,e⟩ ?_
 exact⟨hz,its',n',r,e⟩
def gJf:V->V->V->Hp->(Hp->Prop)->Prop:=λo i v H Q=>∃p xs k j,o=.ref p/\i=.int k/\H p=some (.lst xs)/\ixN xs.length k=some j/\Q (upd H p (.lst (xs.set j v)))
theorem eQd:PSet X gJf:=by
 intro pins s σ H o i v Z iv u Q I ro O N h;obtain⟨p,xs,k,j,rfl,rfl,D,Y,q⟩:=h;cases ro;obtain⟨t,rfl⟩:=O;obtain⟨d,n,r,z,U⟩:=I.lst D;obtain⟨h1,h2,J,G⟩:=cQr Y;have hl:=r.length;have hn:=bZz;have L :=
  I.lstUpd D z (cJp d n j u) (r.set N j) (by rw[List.length_set];exact U) s.toks
 by_cases h0:0<=k
 ·have B:k.toNat=j:=by
   rw[seqIndex_of h0 G] at h1;exact aQ h1
  exact PySem.W.ki_setAt z h0 (by lia) (by rw[aq,<- hl];exact G) (by rw[B];exact⟨_,L,q⟩)
 ·have B:(k+d.toArray.size).toNat=j:=by
   rw[seqIndex_neg (by lia) J] at h1
   rw[aq,<- hl];exact aQ h1
  exact PySem.W.ki_setBack z (by lia) (by rw[aq,<- hl];exact J) (by lia) (by rw[B];exact⟨_,L,q⟩)
theorem aJy(lo hi:Option Int)(n:Nat):(e8 lo hi none n).1=((HT.sIx n 0 lo))/\(e8 lo hi none n).2.1=((HT.sIx n n hi))/\(e8 lo hi none n).2.2=1:=by
 refine⟨?_,?_,rfl⟩
 ·cases lo with
  |none=>simp[e8,HT.sIx]
  |some i =>
   simp only[e8,HT.sIx,jY,show(1:Int)>0 by decide,if_true]
   by_cases h:i<0
   ·simp only[h,if_true] <;> lia
   ·simp only[h,if_false] <;> lia
 ·cases hi with
  |none=>simp[e8,HT.sIx]
  |some i =>
   simp only[e8,HT.sIx,jY,show(1:Int)>0 by decide,if_true]
   by_cases h:i<0
   ·simp only[h,if_true] <;> lia
   ·simp only[h,if_false] <;> lia
theorem bXh(its:List ad)(lo hi:Option Int):slicePick its.toArray lo hi none=((its.drop (HT.sIx its.length 0 lo)).take (HT.sIx its.length its.length hi-HT.sIx its.length 0 lo)).toArray:=by
 obtain⟨h1,h2,d⟩:=aJy lo hi its.toArray.size;unfold slicePick;rw[h1,h2,d];simp only[sliceRange_one,pick_run,aq] <;> rfl
def rSlL(K:ar):V->Option Int->Option Int->Hp->VK->Prop:=λx lo hi H Q=>∃a xs,x=.ref a/\SqL K H a xs/\∀p,H p=none->Q (.ref p) (upd H p (.lst (cutV xs lo hi)))
theorem eJx:SlR X (rSlL X.K):=by
 intro pins s σ H x v G D lo hi sl Q I rx hs pl pu h;obtain⟨a,xs,rfl,B,q⟩:=h;cases rx;obtain⟨j,r,d,z⟩:=I.list B;have hlen:=r.length;refine⟨"list",_,jI.lookup,d.isList.typeIs,?_⟩;refine wpAny_getItem_list_slice d.isList hs pl pu .none (by simp) ?_ (by rw[aq] <;> lia)
 rw[bXh,<- hlen];refine⟨.ref s.heap.objs.size,_,I.laid (λb J q=>af _ q) (am _) ?_,rfl,q _ (I.hok.fresh (am _))⟩;exact⟨aH (bQi xs lo hi) z,_,0,(r.drop (HT.sIx xs.length 0 lo)).take (HT.sIx xs.length xs.length hi-HT.sIx xs.length 0 lo),au _ rfl⟩
theorem CallR.or(h:CallR X f r)(h':CallR X f r'):CallR X f (λxs H Q=>r xs H Q\/r' xs H Q):=by
 intro pins s σ H xs us Q I rs q;rcases q with q|q
 ·exact h pins s σ H xs us Q I rs q
 ·exact h' pins s σ H xs us Q I rs q
theorem call_list_of:CallR X (.type "list") (λxs H Q=>∃p ys,xs=[.ref p]/\(SqL X.K H p ys\/SqT X.K H p ys)/\∀l,H l=none->Q (.ref l) (upd H l (.lst ys))):=by
 intro pins s σ H xs us Q I r h;obtain⟨p,ys,rfl,D,q⟩:=h;obtain⟨u,rfl,rx⟩:=aX4 r;cases rx;have fin:∀(d:List ad),Vals ys d->ys.length<=sizeLine->∀(h':bd) (z:Nat),(∀b o',s.heap.get? b=some o'->h'.get? b=some o') ->
   h'.get? s.heap.objs.size=some {cls:=.type "list",dict:=none,data:=.seq d.toArray z,slots:=#[]}->EP X pins σ Q (.ref s.heap.objs.size) {s with heap:=h'}:=λd j B h' z kp e =>
  ⟨.ref s.heap.objs.size,_,I.laid kp (am _) (show ObjOk X.prog X.w _ h' _ (.lst ys) from⟨B,d,z,j,e⟩),rfl,q _ (I.hok.fresh (am _))⟩
 rcases D with D|D
 ·obtain⟨d,j,pl,B⟩:=I.list D;have hlen:=j.length;obtain⟨o,G,J,n,hd⟩:=pl.isList;exact call_list_seq p (.inl rfl) G J hd (λh' z kp e=>fin d j B h' z kp e) (by simp only[aq] <;> lia)
 ·obtain⟨d,j,pl,B⟩:=I.tuple D;have hlen:=j.length;obtain⟨o,G,J,n,hd⟩:=pl;exact call_list_seq p (.inr rfl) G J hd (λh' z kp e=>fin d j B h' z kp e) (by simp only[aq] <;> lia)
theorem bXi:CallR X (.type "tuple") (λxs H Q=>∃p ys,xs=[.ref p]/\((SqL X.K H p ys/\∀l,H l=none->Q (.ref l) (upd H l (.tup ys)))\/(SqT X.K H p ys/\Q (.ref p) H))):=by
 intro pins s σ H xs us Q I r h;obtain⟨p,ys,rfl,h⟩:=h;obtain⟨u,rfl,rx⟩:=aX4 r;cases rx;rcases h with⟨z,q⟩|⟨z,q⟩
 ·obtain⟨d,j,pl,B⟩:=I.list z;have hlen:=j.length;refine call_tuple_list pl.isList (λh' kp=>?_) (by simp only[aq] <;> lia)
  have D:Inv X pins σ H {s with heap:=h'}:=I.kept kp
  have G:Inv X pins σ (upd H h'.objs.size (.tup ys)) {s with heap:=h'.push {cls:=.type "tuple",data:=.seq d.toArray}} :=
   D.laid (λb o e=>af _ e) (am _) (⟨B,d,j,gV.new _ _,bJn⟩)
  exact⟨.ref h'.objs.size,_,G,rfl,q _ (D.hok.fresh (am _))⟩
 ·obtain⟨d,j,pl,B⟩:=I.tuple z;exact call_tuple_same pl ⟨.ref p,H,I,rfl,q⟩
def tyV(K:ar)(T:String)(x:V)(H:Hp):Prop:=match x with
 |.str _=>T="str"
 |.int _=>T="int"
 |.ref p=>(T="list"/\∃xs,SqL K H p xs)\/(T="tuple"/\∃o,K.lookup p=some o/\o.cls=.type "tuple"/\o.dict=none) \/
   (T="dict"/\((∃kvs,H p=some (.dK kvs))\/∃kvs,H p=some (.dT kvs)))\/(T="set"/\∃S n,H p=some (.set S n))
 |_=>False
theorem fJy{σ:St}(I:Inv X pins σ H s)(r:RelV x v)(ty:tyV X.K T x H) :
  s.TypeIs v T/\∀a,v=.ref a->∃ob,s.heap.get? a=some ob/\ob.dict=none:=by
 cases x with
 |str z =>
  obtain⟨t,rfl⟩:=r;cases (ty)
  exact⟨typeIs_str s z t,λ_ e=>nomatch e⟩
 |int i =>
  obtain⟨t,rfl⟩:=r;cases (ty)
  exact⟨typeIs_int s i t,λ_ e=>nomatch e⟩
 |ref p =>
  cases r;rcases ty with⟨rfl,xs,D⟩|⟨rfl,o,d,G,hd⟩|⟨rfl,d⟩|⟨rfl,S,n,d⟩
  ·obtain⟨B,_,pl,_⟩:=I.list D;refine⟨pl.isList.typeIs,λa e=>?_⟩;cases e;obtain⟨o,n,e,c,hd,_⟩:=pl;exact⟨o,e,hd⟩
  ·refine⟨⟨o,I.kIn p o d,G⟩,λa e=>?_⟩;cases e;exact⟨o,I.kIn _ o d,hd⟩
  ·have z:∃o,s.heap.get? p=some o/\o.ExactDict:=by
    rcases d with⟨j,d⟩|⟨j,d⟩
    ·obtain⟨_,_,_,_,o,_,_,e,ex,_⟩:=I.hok p _ d;exact⟨o,e,ex⟩
    ·obtain⟨_,_,_,_,o,_,_,e,ex,_⟩:=I.hok p _ d;exact⟨o,e,ex⟩
   obtain⟨o,e,ex⟩:=z;refine⟨⟨o,e,ex.1⟩,λa e2=>?_⟩;cases e2;exact⟨o,e,ex.2.1⟩
  ·obtain⟨o,_,_,_,e,ex,_⟩:=I.hok p _ d;refine⟨⟨o,e,ex.1⟩,λa e2=>?_⟩;cases e2;exact⟨o,e,ex.2.1⟩
 |_=>exact dU ty
def tBM(K:ar)(T:String)(r:V->List V->Hp->VK->Prop)(to:TE)(t:TA):TE:=fun σ H Q=>to σ H λx H1=>tyV K T x H1/\t σ H1 λxs H2=>r x xs H2 Q
variable{o e:Expr}{es:List Expr}{to:TE}{t:TA}{name:Str}{apos cpos:Pos}{T id:String}{r:V->List V->Hp->VK->Prop}
theorem gJg(pa:PlainAttrs T)(slot:Slot T name id)(hty:typeOf (.builtin id)=pure (.type "method_descriptor"))(hm:MtR X id r)(ho:PE X o to)(ha:PA X (e::es) t)
  (hbase:gE o name X.env (eval o X.env)=eval o X.env:=by rfl)
  (hfew:((cC cpos (az (e::es) X.env)).all (λx=>!x.1) && (jq cpos (gi [] X.env)).all (λx=>x.1.isSome)
   && decide ((e::es).length+([]:List hX).length+(if ([]:List hX).isEmpty then 0 else 1)<30))=true:=by rfl)
  (hline:(apos.endLine==cpos.line)=true:=by rfl) (hs:az (e::es) X.env=(false,eval e X.env)::az es X.env:=by rfl) (hplain:(cC cpos (az es X.env)).any (·.1)=false:=by rfl) :
  PE X (.Call (.Attribute o name apos) (e::es) [] cpos) (tBM X.K T r to t):=by
 intro pins s σ H Q I h;refine wpAny_Call_method_late hbase hfew hline rfl (thn (ho pins s σ H _ I h) λv s1 ⟨x,H1,z,d,ty,G⟩=>?_);obtain⟨h1,h2⟩:=fJy z d ty;refine⟨T,id,pa,slot,hty,h1,h2,?_⟩;have j:=ha cpos pins s1 σ H1 _ z G;rw[hs] at j ⊢;refine Calls.callWith_builtin (by show(false||(cC cpos (az es X.env)).any (·.1))=false;rw[hplain] <;> rfl) (Calls.evalArgs_plain ?_)
 exact thn j λus s2 ⟨vs,H2,J,B,D⟩=>hm pins s2 σ H2 x vs v us Q J d B D
end
def MtM(X:Cx)(id:String)(r:V->List V->Hp->VK->Prop):Prop :=
 ∀(pins:List (Addr×Obj)) (s:ai) (σ:St) (H:Hp) (x:V) (xs:List V) (v:ad) (us:List ad) (Q:VK),Inv X pins σ H s->RelV x v->Vals xs us->r x xs H Q ->
  aD (aE X.prog X.w) X.A (call (.builtin id) (v::us)) (EP X pins σ Q) X.xe s
theorem Vals.one:∀{x:V}{us:List ad},Vals [x] us->∃u,us=[u]/\RelV x u:=by
 intro x us h;cases h with
 |cons r t=>cases t;exact⟨_,rfl,r⟩
theorem Vals.eraseIdx:∀{xs:List V}{us:List ad}(i:Nat),Vals xs us->Vals (xs.eraseIdx i) (us.eraseIdx i)
 |_,_,_,.nil=>.nil
 |_,_,0,.cons _ t=>t
 |_,_,i+1,.cons r t=>.cons r (Vals.eraseIdx i t)
theorem Vals.reverse(h:Vals xs us):Vals xs.reverse us.reverse:=by
 induction h with
 |nil=>exact .nil
 |cons r t d=>rw[hZ,hZ];exact Vals.append d (.cons r .nil)
theorem bJs{α:Type}:∀(l:List α) (i:Nat),(l.eraseIdx i).length<=l.length
 |[],_=>am _
 |_::_,0=>d4 _
 |_::r,i+1=>Nat.succ_le_succ (bJs r i)
section
variable{X:Cx}{pins:List (Addr×Obj)}{σ:St}{H:Hp}{s:ai}{l b:Addr}{xs ys zs:List V}
theorem Inv.lset{its its':List ad}(I:Inv X pins σ H s)(hH:H l=some (.lst xs))
  (e:s.heap.get? l=some {cls:=.type "list",data:=.seq its.toArray n}) (hf:f its.toArray=its'.toArray) (hv:Vals ys its') (hz:ys.length<=sizeLine) :
  Inv X pins σ (upd H l (.lst ys)) {s with heap:=s.heap.update l (bw f),toks:=t'}:=by
 have q:=PySem.IsL.update e f;rw[hf] at q;refine I.write (by rw[hH];exact trivial) (.inl rfl) (λj u d hu=>(bg s.heap (bw f) (bX d)).trans hu) ⟨_,q⟩ ?_
 exact⟨hz,its',_,hv,q⟩
theorem Inv.lnew(I:Inv X pins σ H s)(hv:Vals ys its)(hz:ys.length<=sizeLine) :
  Inv X pins σ (upd H s.heap.objs.size (.lst ys)) {s with heap:=s.heap.push {cls:=.type "list",data:=.seq its.toArray},toks:=t'} :=
 I.laid (λ_ _ q=>af _ q) (am _) ⟨hz,its,0,hv,au _ rfl⟩
theorem Inv.fresh(I:Inv X pins σ H s):H s.heap.objs.size=none:=I.hok.fresh (am _)
theorem Inv.lstM(I:Inv X pins σ H s)(hH:H l=some (.lst xs)):xs.length<=sizeLine/\∃(its:List ad) (n:Nat),Vals xs its/\xs.length=its.length/\s.heap.get? l=some {cls:=.type "list",data:=.seq its.toArray n}:=by
 obtain⟨z,its,n,r,e⟩:=I.hok l _ hH;exact⟨z,its,n,r,r.length,e⟩
theorem cZw(h:n<=sizeLine):d0 n=false:=decide_eq_false (by lia)
end
section
variable{X:Cx}
def dQq:V->List V->Hp->VK->Prop:=λx vs H Q=>∃l xs y,x=.ref l/\vs=[y]/\H l=some (.lst xs)/\xs.length<sizeLine/\Q .non (upd H l (.lst (xs++[y])))
theorem bJt:MtM X "list.append" dQq:=by
 intro pins s σ H x vs v us Q I rx B h;obtain⟨l,xs,y,rfl,rfl,j,G,q⟩:=h;cases rx;obtain⟨u,rfl,D⟩:=B.one;obtain⟨z,d,n,r,hl,e⟩:=I.lstM j;refine jr F.slot_list_append ⟨_,e,rfl⟩ F.entry_list_append (F.args_list_append_2 _ _) (PySem.list_append l d.toArray n u (by rw[aq];lia)) ⟨e,?_⟩
 refine⟨.non,_,I.lset j e (by simp) (r.append (.cons D .nil)) ?_,rfl,q⟩
 rw[ax,fX];lia
def dQr:V->List V->Hp->VK->Prop:=λx vs H Q=>∃l b xs zs,x=.ref l/\vs=[.ref b]/\H l=some (.lst xs)/\H b=some (.lst zs)/\xs.length+zs.length<=sizeLine/\Q .non (upd H l (.lst (xs++zs)))
theorem dQs:MtM X "list.extend" dQr:=by
 intro pins s σ H x vs v us Q I rx J h;obtain⟨l,b,xs,zs,rfl,rfl,G,U,hz,q⟩:=h;cases rx;obtain⟨u,rfl,ru⟩:=J.one;cases ru;obtain⟨z,j,n,r,hl,e⟩:=I.lstM G;obtain⟨Z,d,N,L,O,Y⟩:=I.lstM U;have D:j.toArray.size+d.toArray.size<=sizeLine:=by rw[aq,aq];lia
 have B:¬ (!j.toArray.isEmpty&&d0 (j.toArray.size+d.toArray.size))=true:=by
  rw[cZw D,kO];exact cD
 refine jr F.slot_list_extend ⟨_,e,rfl⟩ F.entry_list_extend (F.args_list_extend_2 _ _)
  (AutoSeq1.list_extend_list_list_0 l j.toArray n b d.toArray N B (by rw[aq];lia) (by lia)) ⟨e,Y,?_⟩
 refine⟨.non,_,I.lset G e (by simp) (r.append L) ?_,rfl,q⟩
 rw[ax];lia
def eXb:V->List V->Hp->VK->Prop:=λx vs H Q=>∃l xs i k y,x=.ref l/\vs=[.int i]/\H l=some (.lst xs)/\-(2^63)<=i/\i<2^63/\seqIndex? i xs.length=some k/\xs[k]?=some y/\Q y (upd H l (.lst (xs.eraseIdx k)))
theorem eQe:MtM X "list.pop" eXb:=by
 intro pins s σ H x vs v us Q I rx D h;obtain⟨l,xs,i,k,y,rfl,rfl,B,h1,h2,L,J,q⟩:=h;cases rx;obtain⟨u,rfl,G⟩:=D.one;obtain⟨t,rfl⟩:=G;obtain⟨z,d,n,r,hl,e⟩:=I.lstM B;obtain⟨w,hw,j⟩:=r.get J;refine jr F.slot_list_pop ⟨_,e,rfl⟩ F.entry_list_pop (F.args_list_pop_2 _ _)
  (MeetsSeq.list_pop_at l d.toArray n i t k w (fitsIndex_both h1 h2) (by rw[aq,<- hl];exact L) (by rw[<- br];exact hw) (by rw[aq];lia)) ⟨e,?_⟩
 refine⟨y,_,I.lset B e ?_ (r.eraseIdx k) ?_,j,q⟩
 ·rw[List.eraseIdxIfInBounds_toArray]
 ·have:=bJs xs k
  lia
end
section
variable{prog:aA}{w:aO}{A:aW}{E:ad->ai->Prop}{s:ai}
set_option maxRecDepth 100000 in
end
end L2
namespace Att
open PySem PySem.W PySem.Calls PyProof.Rows
theorem bQj:∀(ns:List Int) (vs:List ad),WellAll P h vs (ns.map WData.int)->kh vs ns:=by
 intro ns
 induction ns with
 |nil =>
  intro vs w;rw[e5] at w;cases w;exact .nil
 |cons n ns d =>
  intro vs w;rw[a8] at w;cases w with
  |cons a b =>
   cases a;exact .cons _ _ (d _ b)
theorem dQt{l:OpenLaw}(hn:l.most=some n){P:Params}{h:bd}{args:List WData}{vals:List ad}
  (hpre:l.row.toRowW.claim.pre args=true) (hwl:WellAll P h vals args) :
  ∃a vs ns,vals=[fV a]/\args=[WData.list (ns.map WData.int)]/\h.get? a=some {cls:=.type "list",data:=.seq vs.toArray}/\kh vs ns/\ns.length<=n:=by
 have D:=(pre_splitW hpre).1;have G:=(pre_splitW hpre).2;obtain⟨d,r,rfl,h1,h2⟩:=hasAllW_cons D;obtain rfl:=hasAllW_nil h2;obtain⟨xs,rfl,N⟩:=hasW_list h1;obtain⟨ns,rfl⟩:=items_int N;have hlen:ns.length<=n:=by
  have B:(WTm.not (.lt (.lit (.int n)) (.len (.arg 0)))).holds [] {args:=[.list (ns.map .int)]}=true:=by
   have B:=(holds_andW G).1;rw[hn] at B;exact B
  have z:=condW_of B (w_not (w_lt w_lit (w_len_list (w_arg rfl))));rw[ae] at z;refine Nat.le_of_not_lt λq=>?_;have J:n<ns.length:=by lia
  first
   |(rw[decide_eq_true J] at z;exact absurd z (by decide))
   |(simp at z;lia)
 cases hwl with
 |cons w1 w2 =>
  cases w2;cases w1 with
  |list L j=>exact⟨_,_,ns,rfl,rfl,L,bQj ns _ j,hlen⟩
theorem dQu(l:OpenLaw)(args:List WData):l.row.toRowW.claim.post args (.bool true) args=true :=
 postW_of
  (by first|rfl|decide|simp[WShape.has,WShape.arms,WShape.armsAll])
  (w_eq_bool (w_res rfl) w_lit) rfl
theorem attach_call{l:OpenLaw}
  (hn:l.most=some n) (hdf:d.params.defaults=[])
  (call:∀ (w:aO) (s₀ s₁:ai) (mg mb:Str->Option ad) (fa:Addr) (o:Obj) (pm cd doc:ad) (a:Addr) (vs:List ad) (ns:List Int),
   Ground q loose [] XP w s₀ mg mb s₁.heap->YP w s₁.heap ->
   s₁.heap.get? fa=some o->o.data=.func (docDef d.name d.params d.body d.scope pm cd doc)->s₁.heap.CodeRec cd d.name->mg d.name=some (.ref fa) ->
   s₁.heap.get? a=some {cls:=.type "list",data:=.seq vs.toArray}->kh vs ns->ns.length<=n->s₁.gens=#[] ->
   fv (aE l.prog w) callerA (.call (.ref fa) ⟨[.ref a],[]⟩) (λr s'=>r=.ok (.ret (.bool true))/\OldK s₁.heap s'.heap/\s'.os=s₁.os/\jH s'.gens) s₁) :
  WalkO q loose XP YP l.row.toRowW d [] (λf vs=>PySem.call f vs):=by
 intro w s₀ s₁ mg mb G Y fa o pm cd doc dV kV Z hd J N D hg args vals as j L O B hlo;obtain rfl:dV=.none:=Dflts.none N hdf;obtain rfl:kV=.none:=Dflts.noKw N;obtain⟨a,vs,ns,rfl,rfl,z,hints,hlen⟩:=dQt hn j B;refine enter_call (gp (call w s₀ s₁ mg mb fa o pm cd doc a vs ns G Y Z (fd_plain hd) J D z hints hlen hg) λr s' U=>?_);obtain⟨rfl,h2,h3,h4⟩:=U;exact⟨.inl ⟨.bool true,.bool true,[],rfl,λ_=>rfl,.bool true,dQu l _,λ_=>⟨d9,λ_ hm=>(nomatch hm)⟩⟩,h2,h3,h4⟩
end Att
namespace L2
open PySem PySem.Spec PyProof.Rows
theorem bQk:∀{vs:List ad}{ns:List Int},kh vs ns->Vals (ns.map V.int) vs
 |_,_,.nil=>.nil
 |_,_,.cons n t h=>.cons ⟨t,rfl⟩ (bQk h)
abbrev KOf{K:ar}{h:bd}(_:K.In h):ar:=K
def aXw(s:Stmt):Arguments:=match s with
 |.FunctionDef _ a _ _ _ _ _ _ _ _=>a
 |_=>{posonlyargs:=[],args:=[],vararg:=none,kwonlyargs:=[],kw_defaults:=[],kwarg:=none,defaults:=[]}
def aZb(s:Stmt):List Stmt:=match s with
 |.FunctionDef _ _ b _ _ _ _ _ _ _=>b
 |_=>[]
def aQ5(s:Stmt):Scope:=match s with
 |.FunctionDef _ _ _ _ _ _ sc _ _ _=>sc
 |_=>{kind:=.function,names:=[],isGenerator:=false,isCoroutine:=false}
abbrev CX0:CXT:=λ_ _ _ _ _ _=>False
abbrev E0:XK:=λ_ _ _=>False
theorem gJh:dQn CX0 X E0:=λ_ _ _ _ _ _ _ h=>h.elim
structure Fun(K:ar)(x qual:Str)(st:Stmt)(f:Addr)(fd:dz):Prop where
 ex:∃(oc:ad) (od:Option Addr) (kV doc pm:ad) (an:Option Addr) (cdv ct:ad) (osl:Array (Option ad)),
  fd=eZ x qual (aXw st) (aZb st) (aQ5 st) .none kV doc pm an cdv ct/\K.lookup f=some ⟨oc,od,.func fd,osl⟩/\g8 K cdv qual=true
 kp:gg K (.ref f)=true
section
variable{P:aA}{w:aO}{K:ar}{mg:Str->Option ad}{base:bd}
theorem Fun.ok{x qual:Str}{st:Stmt}{f:Addr}{fd:dz}{N ps:List Str}{k:Nat}{sp:Sp}(F:Fun K x qual st f fd)(S:FnScope N ps (aQ5 st))(len:∀vs H Q E,sp vs H Q E->vs.length=ps.length)
  (hbody:∀ (cdv:ad) (A:aW) (outer:List Env) (s:ai) (H:Hp) (vs:List V) (Q:VK) (E:XK),Room k (A.deeper (jm qual (aQ5 st) s.heap.objs.size f cdv))->sp vs H Q E ->
   ∃t,PSs (cxOf CX0 P w K mg base N qual (aQ5 st) f cdv A outer s H E).nox (aZb st) t/\t {nx:=λ_ H'=>Q .non H',rt:=Q} (start N vs) H):FnOk P w K mg base CX0 (k+1) f fd ps sp:=by
 obtain⟨oc,D,kV,doc,pm,an,cdv,ct,z,rfl,lk,j⟩:=F.ex;refine fJu lk j S len λA outer s H vs Q E B d=>?_;obtain⟨t,h,q⟩:=hbody cdv A outer s H vs Q E B d;exact⟨t,h.nox,q⟩
theorem Fun.binds{st:Stmt}(F:Fun K x qual st f fd)
  (h:∀(kV doc pm:ad) (an:Option Addr) (cdv ct:ad) (us:List ad),us.length=ps.length->bindArgs (eZ x qual (aXw st) (aZb st) (aQ5 st) .none kV doc pm an cdv ct) ⟨us,[]⟩=pure (ps.zip us)):Binds K fd ps []:=by
 obtain⟨oc,z,kV,doc,pm,an,cdv,ct,d,rfl,lk,j⟩:=F.ex;exact .all (h kV doc pm an cdv ct)
theorem eXc{st:Stmt}{kV doc pm cdv ct:ad}(l:K.lookup f=some ⟨oc,od,.func (eZ x qual (aXw st) (aZb st) (aQ5 st) .none kV doc pm an cdv ct),osl⟩)
  (c:g8 K cdv qual=true) (k:gg K (.ref f)=true):Fun K x qual st f (eZ x qual (aXw st) (aZb st) (aQ5 st) .none kV doc pm an cdv ct):=⟨⟨oc,od,kV,doc,pm,an,cdv,ct,osl,rfl,l,c⟩,k⟩
end
theorem ite2{c A B:Prop}[Decidable c](h1:c->A)(h2:¬ c->B):if c then A else B:=by
 by_cases h:c
 ·rw[if_pos h];exact h1 h
 ·rw[if_neg h];exact h2 h
def Same(H H':Hp):Prop:=∀b o,H b=some o->H' b=some o
end L2
set_option autoImplicit true
theorem hd{g:Prop}(h:∀G:Prop,(g->G)->G):g:=h g id
set_option maxHeartbeats 4000000
namespace L2
open PySem PySem.Spec PyProof.Rows
theorem aJl(env:Env):∀(names:List (Str×fU)) (acc:List (Str×Addr)),(∀x,(x,a5)∈names->∃c,env.cells.lookup x=some c)->(∀x c,acc.lookup x=some c->env.cells.lookup x=some c) ->
  ∃cl,(forIn names acc λ(y:Str×fU) cs=>(if (y.2==a5)=true then do let a <- cellOf env y.1;pure (cx ((y.1,a)::cs)) else pure (cx cs)))=pure cl /\
   (∀x c,cl.lookup x=some c->env.cells.lookup x=some c)/\(∀x,((x,a5)∈names\/(acc.lookup x).isSome=true)->(cl.lookup x).isSome=true)
 | [],acc,_,z=>⟨acc,by rfl,z,λx h=>by
   rcases h with h|h
   ·cases h
   ·exact h⟩
 |(n,k)::rest,acc,D,z=>by
  by_cases hk:(k==a5)=true
  ·have G:k=a5:=by cases k <;> first|rfl|cases hk
   subst G;refine hd λN B=>?_;obtain⟨c,J⟩:=D n aj;refine B ?_;obtain⟨cl,e,h1,h2⟩:=aJl env rest ((n,c)::acc) (λx hx=>D x (ak _ hx)) (λx d hx=>by
    simp only[da] at hx
    by_cases j:(x==n)=true
    ·rw[j] at hx;cases hx;rw[gX j];exact J
    ·rw[fc.mpr j] at hx;exact z x d hx)
   refine⟨cl,?_,h1,λx hx=>h2 x ?_⟩
   ·rw[gM];have L:cellOf env n=pure c:=by unfold cellOf;rw[J]
    simp only[hk,if_true,L,jZ];exact e
   ·rcases hx with hx|hx
    ·rcases aw.mp hx with hx|hx
     ·cases hx;right;simp
     ·exact .inl hx
    ·right
     simp only[da];cases x==n <;> simp[hx]
  ·refine hd λN B=>?_;obtain⟨cl,e,h1,h2⟩:=aJl env rest acc (λx hx=>D x (ak _ hx)) z;refine B ?_;refine⟨cl,?_,h1,λx hx=>h2 x ?_⟩
   ·rw[gM];simp only[hk,if_false,jZ,aJ];exact e
   ·rcases hx with hx|hx
    ·rcases aw.mp hx with hx|hx
     ·cases hx;exact absurd rfl hk
     ·exact .inl hx
    ·exact .inr hx
inductive Cap(N:List Str)(sc:Scope):List Str->List (Option Nat)->Prop
 |nil:Cap N sc [] []
 |own {x xs is}:Cap N sc xs is->Cap N sc (x::xs) (none::is)
 |cap {x xs is i}:N[i]?=some x->(x,a5)∈sc.names->Cap N sc xs is->Cap N sc (x::xs) (some i::is)
theorem Cap.length(c:Cap N sc xs is):xs.length=is.length:=by
 induction c with
 |nil=>rfl
 |own _ d=>simp[d]
 |cap _ _ _ d=>simp[d]
theorem Cap.get(c:Cap N sc xs is):∀{j i:Nat}{x:Str},xs[j]?=some x->is[j]?=some (some i)->N[i]?=some x/\(x,a5)∈sc.names:=by
 induction c with
 |nil=>intro j i x h;simp at h
 |own _ d =>
  intro j i x h1 h2;cases j with
  |zero=>simp at h2
  |succ j=>exact d (by simpa using h1) (by simpa using h2)
 |cap z hf _ d =>
  intro j i x h1 h2;cases j with
  |zero=>simp at h1 h2;subst h1;subst h2;exact⟨z,hf⟩
  |succ j=>exact d (by simpa using h1) (by simpa using h2)
def capt(is:List (Option Nat))(σ:St):St:=is.map λo=>o.bind λi=>(σ[i]?).join
theorem aX5{sc:Scope}{env:Env}:∀{names:List (Str×fU)}{x:Str},(names.lookup x=some .cell\/names.lookup x=some .free)->((names.map λ(n,k)=>if (k==a5&&env.scope.kind ==.function&&env.kindOf n==some .cell) then (n,iL) else (n,k)).lookup x=some .cell\/(names.map λ(n,k)=>if (k==a5&&env.scope.kind ==.function&&env.kindOf n==some .cell) then (n,iL) else (n,k)).lookup x=some .free)
 |[],x,h=>by simp at h
 |(n,k)::r,x,h=>by
  simp only[a8]
  by_cases d:(k==a5&&env.scope.kind ==.function&&env.kindOf n==some .cell)=true
  ·rw[if_pos d];simp only[da] at h ⊢;cases hx:x==n with
   |true=>exact .inl rfl
   |false=>rw[hx] at h;exact aX5 (sc:=sc) h
  ·rw[if_neg d];simp only[da] at h ⊢;cases hx:x==n with
   |true=>rw[hx] at h;exact h
   |false=>rw[hx] at h;exact aX5 (sc:=sc) h
theorem aJm{sc:Scope}{env:Env}:∀{names:List (Str×fU)}{x:Str},((names.map λ(n,k)=>if (k==a5&&env.scope.kind ==.function&&env.kindOf n==some .cell) then (n,iL) else (n,k)).lookup x=some .cell\/(names.map λ(n,k)=>if (k==a5&&env.scope.kind ==.function&&env.kindOf n==some .cell) then (n,iL) else (n,k)).lookup x=some .free)->names.lookup x=some .cell\/names.lookup x=some .free
 |[],x,h=>by simp at h
 |(n,k)::r,x,h=>by
  simp only[a8] at h
  by_cases d:(k==a5&&env.scope.kind ==.function&&env.kindOf n==some .cell)=true
  ·rw[if_pos d] at h;simp only[da] at h ⊢;cases hx:x==n with
   |true =>
    right
    have:k==a5:=by
     simp only[aV] at d;exact d.1.1
    cases k <;> first|rfl|cases this
   |false=>rw[hx] at h;exact aJm (sc:=sc) h
  ·rw[if_neg d] at h;simp only[da] at h ⊢;cases hx:x==n with
   |true=>rw[hx] at h;exact h
   |false=>rw[hx] at h;exact aJm (sc:=sc) h
theorem bQl{α β:Type}[BEq α][LawfulBEq α]:∀{l:List (α×β)}{x:α}{k:β},l.lookup x=some k->(x,k)∈l
 |(n,d)::r,x,k,h=>by
  simp only[da] at h;cases hx:x==n with
  |true=>rw[hx] at h;cases h;rw[gX hx];exact aj
  |false=>rw[hx] at h;exact ak _ (bQl h)
def PTs(X:Cx)(ifs:List Expr)(t:TT):Prop :=
 ∀(pins:List (Addr×Obj)) (s:ai) (σ:St) (H:Hp) (Q:Bool->Hp->Prop),Inv X pins σ H s->t σ H Q ->
  aD (aE X.prog X.w) X.A (forIn ifs true λc r=>if r=true then do let ok <- isTrue c X.env (eval c X.env);pure (cx ok) else pure (cx r)) (TP X pins σ Q) X.xe s
def tYes:TT:=λ_ H Q=>Q true H
theorem eJy:PTs X [] tYes:=λpins s σ H Q I h=>wpAny_tests_nil ⟨H,I,h⟩
theorem eJz(h:PT X c t):PTs X [c] t:=λpins s σ H Q I q=>wpAny_tests_one (h pins s σ H Q I q)
def Wk(σ0 σ2:St):Prop:=σ2.length=σ0.length/\∀(j:Nat) v,σ0[j]?=some (some v)->σ2[j]?=some (some v)
def okV(names outer:List (Str×fU)):Bool:=names.all λy=>match y.2 with
 |.free=>match outer.lookup y.1 with
  |some .cell=>true
  |some .free=>true
  |_=>false
 |_=>true
theorem eXd(h:okV names sc.names=true):∀y∈names,y.2=.free->Vis sc y.1/\sc.names.lookup y.1≠some .local:=λy d hf=>by
 have:=ba.mp h y d
 rw[hf] at this;unfold Vis;cases q:sc.names.lookup y.1 with
 |none=>rw[q] at this;cases this
 |some k=>rw[q] at this;cases k <;> first|(simp;done)|cases this
structure Bs(mg:Str->Option ad):Prop where
 len:mg "len"=none
 range:mg "range"=none
 sorted:mg "sorted"=none
 tuple:mg "tuple"=none
 list:mg "list"=none
 set:mg "set"=none
 sum:mg "sum"=none
 min:mg "min"=none
 max:mg "max"=none
 all:mg "all"=none
 any:mg "any"=none
 isinstance:mg "isinstance"=none
 int:mg "int"=none
 str:mg "str"=none
 bool:mg "bool"=none
 zip:mg "zip"=none
 enumerate:mg "enumerate"=none
theorem dQv:cG "len"=some (.builtin "len"):=by decide +kernel
theorem aJ5:cG "sorted"=some (.builtin "sorted"):=by decide +kernel
theorem fJz:cG "min"=some (.builtin "min"):=by decide +kernel
theorem gQ0:cG "all"=some (.builtin "all"):=by decide +kernel
theorem gQ1:cG "any"=some (.builtin "any"):=by decide +kernel
theorem eQf:cG "tuple"=some (.type "tuple"):=by decide +kernel
theorem dQw:cG "list"=some (.type "list"):=by decide +kernel
theorem eXe:cG "set"=some (.type "set"):=by decide +kernel
structure Df(P:aA)(w:aO)(K:ar)(mg:Str->Option ad)(base:bd)(k:Nat)(x:Str)(ps:List Str)(sp:Sp):Prop where
 ex:∃(f:Addr) (fd:dz),FnOk P w K mg base CX0 k f fd ps sp/\Binds K fd ps []/\gg K (.ref f)=true/\mg x=some (.ref f)
theorem Df.mono{K:ar}(D:Df P w K mg base j x ps sp)(h:j<=k):Df P w K mg base k x ps sp:=by
 obtain⟨f,fd,a,b,c,d⟩:=D.ex;exact⟨f,fd,a.mono h,b,c,d⟩
theorem eQg{X:Cx}{k:Nat}{x:Str}{ps:List Str}{sp:Sp}{p pos:Pos}{e:Expr}{es:List Expr}{t:TA}(D:Df X.prog X.w X.K X.mg X.base k x ps sp)(hr:Room k X.A)(hg:Gl X x)(ha:PA X (e::es) t)
  (hdb:(x==("__debug__":Str))=false:=by decide) (he:az (e::es) X.env=(false,eval e X.env)::az es X.env:=by rfl) (hpl:(cC pos (az es X.env)).any (·.1)=false:=by rfl) :
  PE X (.Call (.Name x p) (e::es) [] pos) (fJs sp [] E0 t):=by
 obtain⟨f,fd,F,j,d,hm⟩:=D.ex;exact eJr F hr hg hm d j .nil gJh ha hdb he hpl
structure Tx(K:ar)(mg:Str->Option ad)(x:Str)(st:Stmt):Prop where
 ex:∃(f:Addr) (fd:dz),Fun K x x st f fd/\mg x=some (.ref f)
theorem Tx.df{K:ar}{st:Stmt}(T:Tx K mg x st)
  (b:∀{f:Addr}{fd:dz},Fun K x x st f fd->Binds K fd ps []) (h:∀{f:Addr}{fd:dz},Fun K x x st f fd->FnOk P w K mg base CX0 k f fd ps sp):Df P w K mg base k x ps sp:=by
 obtain⟨f,fd,F,m⟩:=T.ex;exact⟨f,fd,h F,b F,F.kp,m⟩
theorem tx_mk{K:ar}{st:Stmt}{oc kV dc pm cd ct:ad}(X:K.In h)(G:h.Ns aX mg)
  (a:bT K aX x=some (some (.ref f))) (l:K.lookup f=some ⟨oc,od,.func (eZ x x (aXw st) (aZb st) (aQ5 st) .none kV dc pm an cd ct),sl⟩) (c:g8 K cd x=true) (k:gg K (.ref f)=true):Tx K mg x st :=
 ⟨f,_,eXc l c k,k8 X G a⟩
theorem bs_mk{K:ar}(X:K.In h)(G:h.Ns aX mg)(a:∀x∈(["len", "range", "sorted", "tuple", "list", "set", "sum", "min", "max", "all", "any", "isinstance", "int", "str", "bool", "zip", "enumerate"]:List Str),bT K aX x=some none):Bs mg:=by
 have q:=λx d=>PySem.W.mg_none_of X G (a x d);constructor <;> exact q _ (by decide +kernel)
theorem bs_all{K:ar}(z1:bT K aX "len"=some none)(z2:bT K aX "range"=some none)(z3:bT K aX "sorted"=some none)(z4:bT K aX "tuple"=some none)(z5:bT K aX "list"=some none)(z6:bT K aX "set"=some none)
  (z7:bT K aX "sum"=some none) (z8:bT K aX "min"=some none) (z9:bT K aX "max"=some none) (z10:bT K aX "all"=some none) (z11:bT K aX "any"=some none) (z12:bT K aX "isinstance"=some none)
  (z13:bT K aX "int"=some none) (z14:bT K aX "str"=some none) (z15:bT K aX "bool"=some none) (z16:bT K aX "zip"=some none) (z17:bT K aX "enumerate"=some none) :
  ∀x∈(["len", "range", "sorted", "tuple", "list", "set", "sum", "min", "max", "all", "any", "isinstance", "int", "str", "bool", "zip", "enumerate"]:List Str),bT K aX x=some none:=λx d=>by
 simp only[aw,fy,or_false] at d;rcases d with rfl|rfl|rfl|rfl|rfl|rfl|rfl|rfl|rfl|rfl|rfl|rfl|rfl|rfl|rfl|rfl|rfl <;> assumption
end L2
set_option maxHeartbeats 1000000
namespace L2
open PySem PySem.Spec PyProof.Rows
def bQm(ifs:List Expr)(env:Env):Sem Bool:=forIn ifs true λc r=>if r=true then do let ok <- isTrue c env (eval c env);pure (cx ok) else pure (cx r)
def aZ0(target:Expr)(ifs:List Expr)(at0:Pos)(m:Sem Unit)(c:Code)(it:ad)(env:Env):Sem Fin :=
 gn at0>>=λ_=>fJ it>>=λr=>match r with
  |none=>pure (.done .next)
  |some v=>eR target it v>>=λ_=>jN target env v>>=λ_=>bQm ifs env>>=λok=>if ok=true then m>>=λ_=>again c else again c
def emitOf(elt:Expr)(acc:ad)(env:Env):Sem Unit:=eval elt env>>=λx=>call (.builtin "list.append") [acc,x]>>=λ_=>pure ()
def innerOf(e:Expr)(iter:Expr)(acc:ad)(env:Env):Sem Unit:=eval iter env>>=λx=>gn iter.pos>>=λ_=>cy iter env x>>=λx=>fZ [x] (iW x)>>=λit=>runOwn (.compStart e 1 it acc env) env>>=λ_=>pure ()
theorem aQc(elt target iter:Expr)(ifs:List Expr)(scope:Scope)(pos:Pos)(it acc:ad)(env:Env) :
  ff (.ListComp elt [⟨target,iter,ifs,0⟩] scope pos) 0 it acc env=aZ0 target ifs iter.pos (emitOf elt acc env) (.compLoop (.ListComp elt [⟨target,iter,ifs,0⟩] scope pos) 0 it acc env) it env:=by
 rw[compTurn_list];refine congrArg _ (funext λ_=>congrArg _ (funext λr=>?_));cases r with
 |none=>rfl
 |some v =>
  refine congrArg _ (funext λ_=>congrArg _ (funext λ_=>congrArg _ (funext λok=>?_)));cases ok <;> rfl
theorem bQn(elt target iter t2 i2:Expr)(ifs ifs2:List Expr)(scope:Scope)(pos:Pos)(it acc:ad)(env:Env) :
  ff (.ListComp elt [⟨target,iter,ifs,0⟩,⟨t2,i2,ifs2,0⟩] scope pos) 0 it acc env=aZ0 target ifs iter.pos (innerOf (.ListComp elt [⟨target,iter,ifs,0⟩,⟨t2,i2,ifs2,0⟩] scope pos) i2 acc env) (.compLoop (.ListComp elt [⟨target,iter,ifs,0⟩,⟨t2,i2,ifs2,0⟩] scope pos) 0 it acc env) it env:=by
 unfold aZ0 bQm innerOf;refine bind_congr λ_=>bind_congr λr=>?_;cases r with
 |none=>rfl
 |some v =>
  refine bind_congr λ_=>bind_congr λ_=>bind_congr λok=>?_;cases ok with
  |false=>rfl
  |true =>
   simp only[bind_assoc,jZ]
   rfl
theorem bQo(elt target iter t2 i2:Expr)(ifs ifs2:List Expr)(scope:Scope)(pos:Pos)(it acc:ad)(env:Env) :
  ff (.ListComp elt [⟨target,iter,ifs,0⟩,⟨t2,i2,ifs2,0⟩] scope pos) 1 it acc env=aZ0 t2 ifs2 i2.pos (emitOf elt acc env) (.compLoop (.ListComp elt [⟨target,iter,ifs,0⟩,⟨t2,i2,ifs2,0⟩] scope pos) 1 it acc env) it env:=by
 refine bind_congr λ_=>bind_congr λr=>?_;cases r with
 |none=>rfl
 |some v =>
  refine bind_congr λ_=>bind_congr λ_=>bind_congr λok=>?_;cases ok <;> rfl
abbrev TB:=St->Hp->(Hp->Prop)->Prop
def PB(X:Cx)(m:Sem Unit)(t:TB):Prop :=
 ∀(pins:List (Addr×Obj)) (s:ai) (σ:St) (H:Hp) (N:Hp->Prop),Inv X pins σ H s->t σ H N ->
  aD (aE X.prog X.w) X.A m (λ_ s'=>∃σ' H',Inv X pins σ' H' s'/\Wk σ σ'/\N H') (λ_ _=>False) s
def gQ2(D:Addr)(te:TE):TB:=fun σ H N=>te σ H λy H4=>∃zs,H4 D=some (.lst zs)/\zs.length<sizeLine/\N (upd H4 D (.lst (zs++[y])))
def cQt(J:It)(σ0:St)(g:TG)(tt:TT)(tb:TB)(Q:Hp->Prop)(H:Hp):Prop :=
 ∃W:Nat->Nat->Hp->Prop,(∃m,W 0 m H)/\∀i m H,W i m H ->
  (J.stop i H/\Q H)\/(J.go i H/\∃ N:Hp->Prop,(∀ H',N H'->∃ m',m' < m/\W (i + 1) m' H') /\
   ∀x H',J.yld i H x H'->g x σ0 H' fun σ2 H2=>Wk σ0 σ2/\tt σ2 H2 λb H3=>if b=true then tb σ2 H3 N else N H3)
def eXf(wi:TI)(g:TG)(tt:TT)(tb:TB):TB:=fun σ H N=>wi σ H λJ H1=>cQt J σ g tt tb N H1
def cZx(is:List (Option Nat))(wi:TI)(g:TG)(tt:TT)(tb:Addr->TB):TE:=fun σ H Q=>wi σ H λJ H1=>∀D,H1 D=none->cQt J (capt is σ) g tt (tb D) (Q (.ref D)) (upd H1 D (.lst []))
theorem Wk.refl(σ:St):Wk σ σ:=⟨rfl,λ_ _ h=>h⟩
theorem Wk.trans(h:Wk a b)(k:Wk b c):Wk a c:=⟨k.1.trans h.1,λj v e=>k.2 j v (h.2 j v e)⟩
theorem fQ0(h:σ[i]?=some none):Wk σ (σ.set i (some v)):=by
 refine⟨List.length_set,λj u e=>?_⟩
 by_cases d:j=i
 ·subst d;rw[h] at e;cases e
 ·rw[gc (bX d)];exact e
section
variable{X:Cx}
theorem aQg{elt:Expr}{te:TE}{D:Addr}(hxe:X.xe=λ_ _=>False)(he:PE X elt te):PB X (emitOf elt (.ref D) X.env) (gQ2 D te):=by
 intro pins s σ H N I h;have h1:=he pins s σ H _ I h;rw[hxe] at h1;refine aa (thn h1 λy s1 ⟨v,H1,J,j,zs,B,d,n⟩=>aa ?_);have h2:=bJt pins s1 σ H1 (.ref D) [v] (.ref D) [y] (λu L=>u=.non/\N L) J rfl (.cons j .nil) ⟨D,zs,v,rfl,rfl,B,d,rfl,n⟩;rw[hxe] at h2;exact thn h2 λ_ s2 ⟨u,H2,G,_,_,z⟩=>ag ⟨σ,H2,G,Wk.refl σ,z⟩
theorem bXj{e target:Expr}{ifs:List Expr}{at0:Pos}{d:Nat}{acc:ad}{it:Addr}{m:Sem Unit}{g:TG}{tt:TT}{tb:TB}{J:It}{fp:List Addr}{tn:Nat->bd->Prop}{Q:Hp->Prop}{R:Result->ai->Prop}{pins:List (Addr×Obj)}{s:ai}{σ:St}{H:Hp}
  (hcalm:X.calm=true) (hxe:X.xe=λ_ _=>False) (hturn:ff e d (.ref it) acc X.env=aZ0 target ifs at0 m (.compLoop e d (.ref it) acc X.env) (.ref it) X.env)
  (hfr:(iM e d (.ref it) acc X.env).isFrame=false) (hA:X.A.under (iM e d (.ref it) acc X.env)=X.A)
  (T:Turn X.prog X.w X.K target J fp it tn) (hg:PG X target g) (ht:PTs X ifs tt) (hb:PB X m tb)
  (I:Inv X pins σ H s) (st:tn 0 s.heap) (f:∀b∈fp,FpOk X pins H b) (h:cQt J σ g tt tb Q H)
  (fin:∀H' s',Inv X pins σ H' s'->(∀b∈fp,FpOk X pins H' b)->Q H'->R (.ok .next) s') :
  fv (aE X.prog X.w) X.A (.compLoop e d (.ref it) acc X.env) R s:=by
 obtain⟨W,⟨m0,w0⟩,turn⟩:=h;have j:∀{H':Hp},(∀b∈fp,H' b=none)->∀b∈fp,FpOk X pins H' b:=λhn b hb=>⟨hn b hb,(f b hb).2⟩;refine codeAny_loop rfl (λn s'=>∃i H',Inv X pins σ H' s'/\tn i s'.heap/\(∀b∈fp,H' b=none)/\W i n H') ?_ m0 ⟨0,H,I,st,λb hb=>(f b hb).1,w0⟩;rintro n s3 ⟨i,H3,I3,Y,L,w3⟩;have eden:(aE X.prog X.w).den (.compLoop e d (.ref it) acc X.env)=(ff e d (.ref it) acc X.env).onRaise (λx=>do noteFrame x X.env;theTreesLotGoes x):=by
  show(if (iM e d (.ref it) acc X.env).isFrame=true then _ else _)=_
  rw[hfr];rfl
 rw[eden,hturn,hA];refine wpAny_noted ?_;refine aa (fW ?_);rcases turn i n H3 w3 with⟨stop,qn⟩|⟨go,N,hN,step⟩
 ·refine aa (thn (T.done X rfl rfl rfl hcalm i pins s3 σ H3 _ I3 (j L) Y stop) λr s4 D=>?_);obtain⟨hr,I4⟩:=D;subst hr;exact ag (fin H3 s4 I4 (j L) qn)
 ·refine aa (thn (T.item X rfl rfl rfl hcalm i pins s3 σ H3 _ I3 (j L) Y go) λr s4 D=>?_);obtain⟨u,hr,h4⟩:=D;subst hr;refine aa (thn h4 λ_ s5 D=>?_);obtain⟨x,H5,I5,r5,y5,G,fr5⟩:=D;have I5':=I5.pinned (j fr5) (T.obj _ _ G);have q5:=hg _ s5 σ H5 x u _ I5' r5 (step x H5 y5);rw[hxe] at q5;refine aa (cO q5 (λ_ s6 ⟨σ6,H6,I6,U,q6⟩=>?_) λ_ _ z=>z.elim);have q7:=ht _ s6 σ6 H6 _ I6 q6;rw[hxe] at q7;refine aa (cO q7 (λok s7 ⟨H7,I7,q7⟩=>?_) λ_ _ z=>z.elim);have B:∀{σ8:St}{O:Hp}{Z:ai},Inv X (pins++bJp fp s5.heap) σ8 O Z->Wk σ σ8->N O->∃m,m<n/\∃i H',Inv X pins σ H' Z/\tn i Z.heap/\(∀b∈fp,H' b=none)/\W i m H':=λ{σ8 O Z} I8 wk n8=>by
   obtain⟨m',hm,w8⟩:=hN O n8;refine⟨m',hm,i+1,O,I8.unpinned.weak wk.1.symm wk.2,T.keep _ _ _ G λb hb o e=>(I8.pin (b,o) (bq _ (bq _ (aXk hb e)))).1,λb hb=>?_,w8⟩;obtain⟨o,e,_⟩:=T.obj _ _ G b hb;exact(I8.pin (b,o) (bq _ (bq _ (aXk hb e)))).2.1
  cases ok with
  |false=>exact ag ⟨rfl,B I7 U q7⟩
  |true =>
   refine aa (cO (hb _ s7 σ6 H7 N I7 q7) (λ_ Z ⟨σ8,O,I8,wk8,n8⟩=>?_) λ_ _ z=>z.elim);exact ag ⟨rfl,B I8 (U.trans wk8) n8⟩
end
section
variable{X:Cx}
theorem dQx(hc:(clausesOf e)[1]?=some ⟨target,iter,ifs,0⟩)(hfr:(h8 e 1 it acc env).isFrame=false)(hA:A.under (h8 e 1 it acc env)=A)
  (h0:fv (aE prog w) A (.compLoop e 1 it acc env) R s)
  (h:aD (aE prog w) A (iW it) (λit' s'=>fv (aE prog w) A (.compLoop e 1 it' acc env) R s') (notedBy (aE prog w) A env λx s'=>R (.error x) s') s) :
  fv (aE prog w) A (.compStart e 1 it acc env) R s:=by
 refine gN ?_;have d:(aE prog w).den (.compStart e 1 it acc env)=(compStart e 1 it acc env).onRaise (λx=>do noteFrame x env;gn theWindowsPlace):=by
  show(if (h8 e 1 it acc env).isFrame=true then _ else _)=_
  rw[hfr];rfl
 rw[d,hA];refine wpAny_notedAt ?_;unfold compStart;rw[hc];simp only[Option.elim,bne_self_eq_false,aJ,if_false];refine aa (dD (wpAny_ite ?_))
 split
 ·first
   |exact aa (ag (ag (j0 rfl h0)))
   |exact ag (j0 rfl h0)
 ·refine aa (en ?_);refine aa (fW (aa (cO h (λit' s' h'=>ag (j0 rfl h')) λ_ _ x=>x)))
theorem bXk{e t2 i2:Expr}{ifs2:List Expr}{acc:ad}{m:ad->Sem Unit}{wi:TI}{g:TG}{tt:TT}{tb:TB}(hcalm:X.calm=true)(hxe:X.xe=λ_ _=>False)(hc:(clausesOf e)[1]?=some ⟨t2,i2,ifs2,0⟩)
  (hturn:∀it,ff e 1 (.ref it) acc X.env=aZ0 t2 ifs2 i2.pos (m acc) (.compLoop e 1 (.ref it) acc X.env) (.ref it) X.env)
  (hi:PI X t2 i2 wi) (hg:PG X t2 g) (ht:PTs X ifs2 tt) (hb:PB X (m acc) tb)
  (hs:∀x,cy i2 X.env x=pure x) (hfr:∀it,(h8 e 1 it acc X.env).isFrame=false) (hfr2:∀it,(iM e 1 it acc X.env).isFrame=false)
  (hA:∀it,X.A.under (h8 e 1 it acc X.env)=X.A) (hA2:∀it,X.A.under (iM e 1 it acc X.env)=X.A) :
  PB X (innerOf e i2 acc X.env) (eXf wi g tt tb):=by
 intro pins s σ H N I h;have h1:=hi pins s σ H _ I h;rw[hxe] at h1;refine aa (thn h1 λv s1 z=>aa (fW (aa (jJ (hs v) (aa (bF (thn z λB s2 j=>?_)))))));obtain⟨it,fp,tn,J,H2,rfl,D,T,d,f2,j⟩:=j;refine aa (wpAny_runOwn ?_);have loop:fv (aE X.prog X.w) X.A (.compLoop e 1 (.ref it) acc X.env) (λr s'=>match r with
   |.ok f=>aD (aE X.prog X.w) X.A (pure ()) (λ_ s'=>∃σ' H',Inv X pins σ' H' s'/\Wk σ σ'/\N H') (λ_ _=>False) s'
   |.error x=>cameBackBy (aE X.prog X.w) X.A X.env (λ_ _=>False) x s') s2 :=
  bXj hcalm hxe (hturn it) (hfr2 _) (hA2 _) T hg ht hb D d f2 j λH' s' G _ n=>ag ⟨σ,H',G,Wk.refl σ,n⟩
 exact dQx hc (hfr _) (hA _) loop (T.self _ 0 _ _ _ d loop)
end
theorem aJn(env:Env):∀(names:List (Str×fU)) (acc:List (Str×Addr)),(∀x,(x,a5)∈names->∃c,env.cells.lookup x=some c) ->
  ∃cl,(forIn names acc λ(y:Str×fU) cs=>(if (y.2==a5)=true then do let a <- cellOf env y.1;pure (cx ((y.1,a)::cs)) else pure (cx cs)))=pure cl /\
   (∀x c,cl.lookup x=some c->(x,a5)∈names\/acc.lookup x=some c)
 |[],acc,_=>⟨acc,by rfl,λ_ _ h=>.inr h⟩
 |(n,k)::rest,acc,B=>by
  by_cases hk:(k==a5)=true
  ·have D:k=a5:=by cases k <;> first|rfl|cases hk
   subst D;obtain⟨c,G⟩:=B n aj;obtain⟨cl,e,h1⟩:=aJn env rest ((n,c)::acc) (λx j=>B x (ak _ j));refine⟨cl,?_,λx d j=>?_⟩
   ·rw[gM];have J:cellOf env n=pure c:=by unfold cellOf;rw[G]
    simp only[hk,if_true,J,jZ];exact e
   ·rcases h1 x d j with z|z
    ·exact .inl (ak _ z)
    ·simp only[da] at z;cases hxn:x==n with
     |true=>rw[gX hxn];exact .inl aj
     |false=>rw[hxn] at z;exact .inr z
  ·obtain⟨cl,e,h1⟩:=aJn env rest acc (λx j=>B x (ak _ j));refine⟨cl,?_,λx d j=>?_⟩
   ·rw[gM];simp only[hk,if_false,jZ,aJ];exact e
   ·rcases h1 x d j with z|z
    ·exact .inl (ak _ z)
    ·exact .inr z
theorem aXr(hn:∀x,(x,a5)∈scope.names->∃c,env.cells.lookup x=some c) :
  ∃cl,js scope env=pure cl/\(∀x c,cl.lookup x=some c->env.cells.lookup x=some c)/\(∀x,(x,a5)∈scope.names->(cl.lookup x).isSome=true)/\∀x c,cl.lookup x=some c->(x,a5)∈scope.names:=by
 obtain⟨cl,e,h1,h2⟩:=aJl env scope.names [] hn (λx c h=>by cases h)
 obtain⟨cl',D,j⟩:=aJn env scope.names [] hn;have B:cl=cl':=by
  have:=e.symm.trans D
  injection this
 subst B;refine⟨cl,?_,h1,λx d=>h2 x (.inl d),λx c d=>(j x c d).elim id λz=>by cases z⟩
 have q:js scope env=(forIn scope.names ([]) λy cs=>(if (y.2==a5)=true then do let a <- cellOf env y.1;pure (cx ((y.1,a)::cs)) else pure (cx cs))):=bind_pure _
 rw[q,e]
def ocl(oc:Option Str)(c:Addr)(cl:List (Str×Addr)):List (Str×Addr):=match oc with
 |none=>cl
 |some x=>(x,c)::cl
def ohp(oc:Option Str)(h:bd):bd:=match oc with
 |none=>h
 |some _=>h.push {cls:=.type "cell",data:=.cell none}
theorem bQp(h:(ocl oc c cl).lookup x=some d):(oc=some x/\d=c)\/cl.lookup x=some d:=by
 cases oc with
 |none=>exact .inr h
 |some z =>
  unfold ocl at h;simp only[da] at h;cases hx:x==z with
  |true=>rw[hx] at h;cases h;rw[gX hx];exact .inl ⟨rfl,rfl⟩
  |false=>rw[hx] at h;exact .inr h
theorem cZy(h:(cl.lookup x).isSome=true):∃d,(ocl oc c cl).lookup x=some d:=by
 cases oc with
 |none=>exact bn.mp h
 |some z =>
  unfold ocl;simp only[da];cases hx:x==z with
  |true=>exact⟨_,rfl⟩
  |false=>exact bn.mp h
theorem fQ1:(ocl (some x) c cl).lookup x=some c:=by unfold ocl;simp
theorem bQ9(e:h.get? b=some o):(ohp oc h).get? b=some o:=by
 cases oc with
 |none=>exact e
 |some _=>exact af _ e
def aQe(X:Cx)(N':List Str)(scope:Scope)(cl:List (Str×Addr))(C:Addr)(fp:List Addr)(s:ai)(H:Hp)(oc:Option Str):Cx :=
 {X with N:=N',s₀:=s,H₀:=H,env:=iP scope cl C X.env,outer:=X.stack,ex:=fp,fn:=λx=>decide (oc=some x),pn:=[],xe:=λ_ _=>False}
theorem dQy
  (h:Q {scope:=scope,locals:=s.heap.objs.size,globals:=env.globals,cells:=eS (s.heap.objs.size+1) scope.names cl,qual:=env.qual,func:=none,code:=env.code,frame:=env.frame,builtins:=env.builtins} {s with heap:=gY (s.heap.push {cls:=.type "dict",data:=.dict #[]}) scope.names}) :
  aD M A (newFunctionEnv scope env.globals cl [] env.qual none .none (some env)) Q E s:=by
 unfold newFunctionEnv;simp only[jt,if_true];refine aa (wpAny_alloc ?_);refine aa (wpAny_layCells _ (λname kind cells=>by cases hkc:kind==iL <;> simp[hkc]) _ _ _ _ ?_)
 rw[cz ..]
 exact aa (ag (ag h))
section
variable{X:Cx}{pins:List (Addr×Obj)}{σ:St}{H H':Hp}{s s2:ai}
theorem bX1{fp:List Addr}(I:Inv X pins σ H s)(hf:∀b∈fp,FpOk X pins H b)(hfl:∀b∈fp,b<s.heap.objs.size)(hkind:scope.kind=.function)
  (c1:∀x c,cl.lookup x=some c->X.env.cells.lookup x=some c) (c2:∀x,(x,a5)∈scope.names->(cl.lookup x).isSome=true) (hcell:∀y∈scope.names,y.2=.cell->oc=some y.1) (hun:∀x,oc=some x->cl.lookup x=none) :
  (aQe X N' scope (ocl oc (s.heap.objs.size+1) cl) s.heap.objs.size fp s H oc).Ok where
 mod:=I.ok.mod
 kind:=hkind
 glob:=I.ok.glob
 blt:=I.ok.blt
 above:=am _
 inj:=λx y c h1 h2=>by
  have old:∀z,cl.lookup z=some (s.heap.objs.size+1)->False:=λz e=>by
   obtain⟨v,q⟩:=I.cell z _ (c1 z _ e);exact absurd (q.lt) (iC.mpr (d4 _))
  rcases bQp h1 with⟨D,rfl⟩|D <;> rcases bQp h2 with⟨B,e⟩|B
  ·rw[D] at B;exact aQ B
  ·exact(old y B).elim
  ·subst e;exact(old x D).elim
  ·exact I.ok.inj x y c (c1 x c D) (c1 y c B)
 has:=λx G=>by
  have d:=aJm (sc:=scope) G;rcases d with d|d
  ·have e:=hcell _ (bQl d) rfl;subst e;exact⟨_,fQ1⟩
  ·exact cZy (c2 x (bQl d))
 cab:=λx c h J=>by
  have h':=of_decide_eq_true h;rcases bQp J with⟨_,rfl⟩|e
  ·exact d4 _
  ·rw[hun x h'] at e;cases e
 hd:=I.ok.hd
 frames:=I.ok.frames
 gd:=I.ok.gd
 stk:=.inl rfl
 exf:=λb j=>⟨aN (hfl b j),λx c e=>by
  rcases bQp e with⟨_,rfl⟩|e
  ·intro z;exact absurd (z▸hfl b j) (iC.mpr (d4 _))
  ·exact(hf b j).2.2.2.2.1 x c (c1 x c e)⟩
 bs:=I.bs
 bsz:=aH I.ok.bsz I.sz
 noex:=λb o e j=>by
  rcases(hf b j).2.2.2.1 with z|z
  ·exact I.ok.noex b o e z
  ·have q:=I.ok.bs b o e;exact absurd (bB (aC q.1) z) (cT _)
 exfs:=λb j z=>by
  rcases aw.mp (I.stkSub b z) with e|e
  ·exact(hf b j).2.1 e
  ·exact(hf b j).2.2.1 e
 funs:=I.stack
 frf:=I.stkFree
theorem bQq(I:Inv X pins σ H s)(ok:(aQe X N' scope (ocl oc (s.heap.objs.size+1) cl) s.heap.objs.size fp s H oc).Ok)(hN:X.N.Nodup)
  (c1:∀x c,cl.lookup x=some c->X.env.cells.lookup x=some c) (c2:∀x,(x,a5)∈scope.names->(cl.lookup x).isSome=true) (hu:∀x,(x,a5)∈scope.names->scope.names.lookup x=some .free) (cp:Cap X.N scope N' is)
  (hV:∀x,(x,a5)∈scope.names->Vis X.env.scope x/\X.env.scope.names.lookup x≠some .local) (hun:∀x,oc=some x->cl.lookup x=none) :
  Inv (aQe X N' scope (ocl oc (s.heap.objs.size+1) cl) s.heap.objs.size fp s H oc) [] (capt is σ) H {s with heap:=ohp oc (s.heap.push {cls:=.type "dict",data:=.dict #[]})}:=by
 have kp:∀b o,s.heap.get? b=some o->(ohp oc (s.heap.push {cls:=.type "dict",data:=.dict #[]})).get? b=some o:=λb o e=>bQ9 (af _ e);exact {
 ok:=ok
 os:=rfl
 bare:=I.bare
 base:=Un.kept kp
 loc:=by
  refine⟨_,(bd.Ns.new s.heap (.type "dict")).keeps λb o e=>bQ9 e,λj x v e1 e2 e3=>?_⟩;have U:=e1;unfold capt at e2;rw[aY] at e2;cases hi:is[j]? with
  |none=>rw[hi] at e2;cases e2
  |some o =>
   rw[hi] at e2;cases o with
   |none=>cases e2
   |some i =>
    obtain⟨Z,d⟩:=cp.get U hi;have e2':(σ[i]?).join=some v:=aQ e2;have e4:σ[i]?=some (some v):=by
     cases q:σ[i]? with
     |none=>rw[q] at e2';cases e2'
     |some z=>rw[q] at e2';cases z with
      |none=>cases e2'
      |some z=>cases e2';rfl
    obtain⟨m,hn,hl⟩:=I.loc;obtain⟨D,O⟩:=hV x d;obtain⟨u,r,l⟩:=hl i x v Z e4 D;refine⟨u,r,.inr ⟨aX5 (sc:=scope) (.inr (hu x d)),?_⟩⟩;rcases l with⟨k,_⟩|⟨k,c,e,z⟩
    ·exact absurd k O
    ·obtain⟨G,Y⟩:=cZy (c2 x d);have ee:G=c:=by
      rcases bQp Y with⟨J,_⟩|J
      ·have:=c2 x d;rw[hun x J] at this;cases this
      ·have:=c1 x G J;rw[e] at this;exact(aQ this).symm
     subst ee;obtain⟨B,L,hd⟩:=z;exact⟨G,Y,B,kp G B L,hd⟩
 cell:=λx c e=>by
  rcases bQp (e) with⟨z,rfl⟩|e
  ·subst z;refine⟨none,{cls:=.type "cell",data:=.cell none},?_,rfl⟩;rw[<- cz s.heap {cls:=.type "dict",data:=.dict #[]}];exact au _ rfl
  ·obtain⟨v,o,ho,hd⟩:=I.cell x c (c1 x c e);exact⟨v,o,kp c o ho,hd⟩
 free:=I.hok.fresh (am _)
 freeC:=λx c e=>by
  rcases bQp (e) with⟨z,rfl⟩|e
  ·exact I.hok.fresh (d4 _)
  ·exact I.freeC x c (c1 x c e)
 pin:=λp hp=>absurd (show p∈([]) from hp) (by simp)
 hok:=I.hok.kept kp
 len:=by
  show(capt is σ).length=N'.length;unfold capt;rw[ae,cp.length]}
def FrC(X:Cx)(pins:List (Addr×Obj))(C:Addr)(H:Hp):Prop:=H C=none/\C≠X.env.locals/\X.s₀.heap.objs.size<=C/\(∀x c,X.env.cells.lookup x=some c->c≠C)/\∀p∈X.pn++pins,p.1≠C
theorem FrC.gone(f:FrC X pins C H)(I:Inv X pins σ H s)(sb:dZ C s.heap h'):Inv X pins σ H {s with heap:=h'} :=
 I.turned (λb o d e=>(sb.2 b d).trans e) f.1 f.2.1 (.inr f.2.2.1) f.2.2.2.1 f.2.2.2.2
theorem comp_gen{m:ad->Env->Sem Unit}(hcalm:X.calm=true)(hN:X.N.Nodup)
  (hturn:∀it acc env,ff (.ListComp elt (⟨target,iter,ifs,0⟩::gs) scope pos) 0 it acc env=aZ0 target ifs iter.pos (m acc env) (.compLoop (.ListComp elt (⟨target,iter,ifs,0⟩::gs) scope pos) 0 it acc env) it env)
  (cp:Cap X.N scope N' is) (hi:PI X target iter wi)
  (hg:∀cl C fp s H,PG (aQe X N' scope cl C fp s H oc) target g) (ht:∀cl C fp s H,PTs (aQe X N' scope cl C fp s H oc) ifs tt) (hb:∀cl C fp s H D,PB (aQe X N' scope cl C fp s H oc) (m (.ref D) (iP scope cl C X.env)) (tb D))
  (hcf:∀n acc,eS n scope.names acc=ocl oc n acc) (hpc:∀h,gY h scope.names=ohp oc h)
  (hkind:scope.kind=.function) (hcell:∀y∈scope.names,y.2=.cell->oc=some y.1)
  (hu:∀y∈scope.names,scope.names.lookup y.1=some y.2) (hoc:∀x,oc=some x->scope.names.lookup x=some .cell)
  (hVb:okV scope.names X.env.scope.names=true)
  (hs:∀x,cy iter X.env x=pure x)
  {use:Option (ad->Sem Unit)}{Q:VK}{Qv:ad->ai->Prop}(I:Inv X pins σ H s) (h:cZx is wi g tt tb σ H Q)
  (fin:∀D C H5 s6,Inv X pins σ H5 s6->(∃m,s6.heap.Ns C m)->FrC X pins C H5->Q (.ref D) H5->compPost (aE X.prog X.w) X.A X.xe use Qv (.ref D) C (.ok .next) s6) :
  aD (aE X.prog X.w) X.A (comprehension (.ListComp elt (⟨target,iter,ifs,0⟩::gs) scope pos) scope X.env (firstIterPos (⟨target,iter,ifs,0⟩::gs) pos) (newList []) (firstAsync (⟨target,iter,ifs,0⟩::gs)) (firstIter (⟨target,iter,ifs,0⟩::gs) X.env) use) Qv X.xe s:=by
 have hV:=eXd hVb;have hV':=λx j=>hV (x,.free) j rfl;have hu':=λx j=>hu (x,.free) j;have B:∀x∈scope.names,x.2=.local->scope.names.lookup x.1=some .local:=λx j hl=>by rw[hu x j,hl]
 obtain⟨cl,L,c1,c2,c3⟩:=aXr λx j=>I.ok.has x (by
  obtain⟨v,n⟩:=hV' x j;rcases v with v|v|v
  ·exact absurd v n
  ·exact .inl v
  ·exact .inr v)
 have hun:∀x,oc=some x->cl.lookup x=none:=λx j=>by
  cases e:cl.lookup x with
  |none=>rfl
  |some c =>
   have:=hu' x (c3 x c e)
   rw[hoc x j] at this;cases this
 refine wpAny_comprehension_free rfl hs L hkind B (thn (hi pins s σ H _ I h) λv s1 h1=>thn h1 λitv s2 h2=>?_);obtain⟨it,fp,tn,J,H2,rfl,I2,T,st2,f2,q2⟩:=h2;refine bC ?_;have hD:=I2.hok.fresh (am _);have fpl:∀b∈fp,b<s2.heap.objs.size:=λb hb=>by obtain⟨o,e,_⟩:=T.obj _ _ st2 b hb;exact aC e
 have O:Inv X pins σ (upd H2 s2.heap.objs.size (.lst [])) {s2 with heap:=s2.heap.push {cls:=.type "list",dict:=none,data:=.seq ([]).toArray}} :=
  I2.laid (λb u e=>af _ e) (am _) ⟨bN _,[],0,.nil,au _ rfl⟩
 have st3:tn 0 (s2.heap.push {cls:=.type "list",dict:=none,data:=.seq ([]).toArray}):=T.keep _ _ _ st2 λb hb o e=>af _ e;have U:∀b∈fp,FpOk X pins (upd H2 s2.heap.objs.size (.lst [])) b:=λb hb=>⟨by rw[upd_ne (aN (fpl b hb))];exact(f2 b hb).1,(f2 b hb).2⟩
 have G:∀b∈fp,b<(s2.heap.push {cls:=.type "list",dict:=none,data:=.seq ([]).toArray}).objs.size:=λb hb=>by rw[cz];exact cK (fpl b hb)
 have q3:=q2 _ hD;generalize hDe:s2.heap.objs.size=D at *
 generalize hs3:({s2 with heap:=s2.heap.push {cls:=.type "list",dict:=none,data:=.seq ([]).toArray}})=s3 at *
 have hsh:s3.heap=s2.heap.push {cls:=.type "list",dict:=none,data:=.seq ([]).toArray}:=by rw[<- hs3]
 rw[<- hsh] at st3 G;have ok:=bX1 (N':=N') O U G hkind c1 c2 hcell hun;have I4:=bQq O ok hN c1 c2 hu' cp hV' hun;refine dQy ?_;rw[hcf,hpc];have kp:∀b o,s3.heap.get? b=some o->(ohp oc (s3.heap.push {cls:=.type "dict",data:=.dict #[]})).get? b=some o:=λb o e=>bQ9 (af _ e);have Z:=T.keep _ _ _ st3 λb _ o e=>kp b o e;have f4:∀b∈fp,FpOk (aQe X N' scope (ocl oc (s3.heap.objs.size+1) cl) s3.heap.objs.size fp s3 (upd H2 D (.lst [])) oc) [] (upd H2 D (.lst [])) b:=λb hb =>
  ⟨(U b hb).1,(ok.exf b hb).1,ok.exfs b hb,.inl hb,(ok.exf b hb).2,λp hp=>absurd (show p∈([]) from hp) (by simp)⟩
 have loop:=bXj (X:=aQe X N' scope (ocl oc (s3.heap.objs.size+1) cl) s3.heap.objs.size fp s3 (upd H2 D (.lst [])) oc)
  hcalm rfl (hturn _ _ _) rfl rfl T (hg _ _ _ _ _) (ht _ _ _ _ _) (hb _ _ _ _ _ D) I4 Z f4 q3 (by
   intro H5 s6 Y _ qn;obtain⟨m6,n6,_⟩:=id Y.loc;have un:=Y.base;have hok':=Y.hok;refine fin D s3.heap.objs.size H5 s6 (O.call' Y.os un hok' Y.bare λb hb=>⟨(U b hb).2.2.2.1,(U b hb).2.1,(U b hb).2.2.2.2.1,(U b hb).2.2.2.2.2⟩) ⟨m6,n6⟩ ⟨Y.free,fI O.lt,O.sz,λx c e z=>?_,λp hp z=>?_⟩ qn
   ·obtain⟨v,q⟩:=O.cell x c e;exact absurd q.lt (by rw[z];exact cT _)
   ·exact absurd (aC (O.pin p hp).1) (by rw[z];exact cT _))
 exact codeAny_compStart_list loop (T.self _ 0 _ _ _ Z loop)
theorem eQh{m:ad->Env->Sem Unit}(hcalm:X.calm=true)(hN:X.N.Nodup)
  (hturn:∀it acc env,ff (.ListComp elt (⟨target,iter,ifs,0⟩::gs) scope pos) 0 it acc env=aZ0 target ifs iter.pos (m acc env) (.compLoop (.ListComp elt (⟨target,iter,ifs,0⟩::gs) scope pos) 0 it acc env) it env)
  (cp:Cap X.N scope N' is) (hi:PI X target iter wi)
  (hg:∀cl C fp s H,PG (aQe X N' scope cl C fp s H oc) target g) (ht:∀cl C fp s H,PTs (aQe X N' scope cl C fp s H oc) ifs tt) (hb:∀cl C fp s H D,PB (aQe X N' scope cl C fp s H oc) (m (.ref D) (iP scope cl C X.env)) (tb D))
  (hcf:∀n acc,eS n scope.names acc=ocl oc n acc:=by intro _ _;rfl) (hpc:∀h,gY h scope.names=ohp oc h:=by intro _;rfl)
  (hkind:scope.kind=.function:=by rfl) (hcell:∀y∈scope.names,y.2=.cell->oc=some y.1:=by decide +kernel)
  (hu:∀y∈scope.names,scope.names.lookup y.1=some y.2:=by decide +kernel) (hoc:∀x,oc=some x->scope.names.lookup x=some .cell:=by intro x h;cases h <;> rfl)
  (hVb:okV scope.names X.env.scope.names=true:=by first|rfl|kernel_rfl)
  (hs:∀x,cy iter X.env x=pure x:=by intro _;rfl) :
  PE X (.ListComp elt (⟨target,iter,ifs,0⟩::gs) scope pos) (cZx is wi g tt tb):=by
 intro pins s σ H Q I h;rw[eval_ListComp];refine comp_gen hcalm hN hturn cp hi hg ht hb hcf hpc hkind hcell hu hoc hVb hs I h λD C G J B ⟨m,n⟩ z j=>?_;exact⟨m,n,λh' d=>⟨.ref D,G,z.gone B d,rfl,j⟩⟩
theorem fQ2{pos' spos:Pos}(hix:X.N[i]?=some x)(hx:Loc X.env.scope x){elt target iter:Expr}{ifs:List Expr}{gs:List fq}{scope:Scope}{pos:Pos}{N':List Str}{is:List (Option Nat)}{wi:TI}{g:TG}{tt:TT}{tb:Addr->TB}{oc:Option Str}{m:ad->Env->Sem Unit}(hcalm:X.calm=true)(hN:X.N.Nodup)
  (hturn:∀it acc env,ff (.ListComp elt (⟨target,iter,ifs,0⟩::gs) scope pos) 0 it acc env=aZ0 target ifs iter.pos (m acc env) (.compLoop (.ListComp elt (⟨target,iter,ifs,0⟩::gs) scope pos) 0 it acc env) it env)
  (cp:Cap X.N scope N' is) (hi:PI X target iter wi)
  (hg:∀cl C fp s H,PG (aQe X N' scope cl C fp s H oc) target g) (ht:∀cl C fp s H,PTs (aQe X N' scope cl C fp s H oc) ifs tt) (hb:∀cl C fp s H D,PB (aQe X N' scope cl C fp s H oc) (m (.ref D) (iP scope cl C X.env)) (tb D))
  (hcf:∀n acc,eS n scope.names acc=ocl oc n acc:=by intro _ _;rfl) (hpc:∀h,gY h scope.names=ohp oc h:=by intro _;rfl)
  (hkind:scope.kind=.function:=by rfl) (hcell:∀y∈scope.names,y.2=.cell->oc=some y.1:=by decide +kernel)
  (hu:∀y∈scope.names,scope.names.lookup y.1=some y.2:=by decide +kernel) (hoc:∀x,oc=some x->scope.names.lookup x=some .cell:=by intro x h;cases h <;> rfl)
  (hVb:okV scope.names X.env.scope.names=true:=by first|rfl|kernel_rfl)
  (hs:∀x,cy iter X.env x=pure x:=by intro _;rfl)
  (hsw:iA (.ListComp elt (⟨target,iter,ifs,0⟩::gs) scope pos) (some (.Name x pos')) spos.line X.env=pure true:=by first|rfl|kernel_rfl) (hf:X.fn x=true\/X.env.scope.names.lookup x=some .local:=by first|exact .inl rfl|exact .inr rfl|assumption) :
  PS X (.Assign [.Name x pos'] (.ListComp elt (⟨target,iter,ifs,0⟩::gs) scope pos) spos) (tAsg (cZx is wi g tt tb) (cQq i)):=by
 intro pins s σ H D I h;rw[exec_Assign_Name_used _ _ _ _ hsw];refine aa (fW (aa ?_));refine aa (comp_gen hcalm hN hturn cp hi hg ht hb hcf hpc hkind hcell hu hoc hVb hs I h λE C Y s6 U ⟨m,n⟩ B J=>?_);refine wpAny_assign_Name (bJo U hN hix hx (show RelV (.ref E) (.ref E) from rfl) (λZ O ⟨a,G,L⟩=>?_) hf)
 have j:C≠a:=by
  rintro rfl;rcases L with z|z
  ·exact B.2.1 z
  ·exact B.2.2.2.1 x C z rfl
 refine⟨m,n.sameBut G j,λh' d=>ag (ag ?_)⟩;exact⟨_,Y,B.gone O d,J⟩
end
end L2
set_option maxHeartbeats 4000000
namespace L2
open PySem PySem.Spec PyProof.Rows
abbrev Dn(α:Type):=Hp->V->α->Prop
abbrev Fg:=ar
def dS:Dn Str:=λ_ v x=>v=.str x
def dB:Dn Bool:=λ_ v b=>v=.bl b
def dT{α:Type}(K:Fg)(R:Dn α):Dn (List α):=λH v ds=>∃a xs,v=.ref a/\SqT K H a xs/\bc (R H) xs ds
def dL{α:Type}(K:Fg)(R:Dn α):Dn (List α):=λH v ds=>∃a xs,v=.ref a/\SqL K H a xs/\bc (R H) xs ds
theorem aQx(h:H p=none):Same H (upd H p o):=λb o' e=>by
 rw[upd_ne (by rintro rfl;rw[h] at e;cases e)];exact e
theorem Paired.imp{F G:α->β->Prop}(h:∀a b,F a b->G a b):∀{l:List α}{m:List β},bc F l m->bc G l m
 |_,_,.nil=>.nil
 |_,_,.cons p q=>.cons (h _ _ p) (Paired.imp h q)
theorem beq_dec{α:Type}[DecidableEq α][BEq α][LawfulBEq α](a b:α):(a==b)=decide (a=b):=by
 by_cases h:a=b
 ·subst h;simp
 ·simp[h]
theorem Paired.get'{F:α->β->Prop}:∀{l:List α}{m:List β}{i:Nat}{a:α},bc F l m->l[i]?=some a->∃b,m[i]?=some b/\F a b
 |_,_,_,_,.nil,h=>by simp at h
 |_,_,0,_,.cons p _,h=>by simp at h;subst h;exact⟨_,rfl,p⟩
 |_,_,i+1,a,.cons _ q,h=>by
  obtain⟨b,e,f⟩:=Paired.get' q (by simpa using h)
  exact⟨b,by simpa using e,f⟩
theorem gQ3{α:Type}[DecidableEq α]:∀(ds es:List α),((aI (min ds.length es.length)).all λj=>decide (ds[j]?=es[j]?))=true->ds.length=es.length->ds=es:=λds es h hl=>by
 apply h9;intro i
 by_cases hi:i<ds.length
 ·have:=ba.mp h i (aU.mpr (by lia))
  exact of_decide_eq_true this
 ·rw[bL (by lia),bL (by lia)]
theorem dQz{α:Type}[DecidableEq α](ds es:List α)(n m:Nat)(hn:n=ds.length)(hm:m=es.length):((aI (min n m)).all (λj=>decide (ds[j]?=es[j]?))&&(n==m))=decide (ds=es):=by
 subst hn;subst hm
 by_cases h:ds=es
 ·subst h;simp
 ·rw[decide_eq_false h,Bool.and_eq_false_iff]
  by_cases hl:ds.length=es.length
  ·left
   cases q:(aI (min ds.length es.length)).all λj=>decide (ds[j]?=es[j]?) with
   |false=>rfl
   |true=>exact absurd (gQ3 ds es q hl) h
  ·right;simpa using hl
variable{α β γ:Type}
end L2
namespace ST
open PySem PySem.SetTable
def step(mask:Nat)(p:Probe):Probe :=
 if p.more>0 then {p with j:=p.j+1,more:=p.more-1} else
 {p with j:=(leap mask p.i p.perturb).1,more:=runEnd mask (leap mask p.i p.perturb).1-(leap mask p.i p.perturb).1,i:=(leap mask p.i p.perturb).1,perturb:=(leap mask p.i p.perturb).2}
theorem aJo(t:aR)(p:Probe):t.advance p=step t.mask p:=by
 unfold aR.advance step
 split <;> rfl
def road(mask:Nat):Nat->Probe->Probe
 |0,p=>p
 |m+1,p=>road mask m (step mask p)
theorem bQr(mask:Nat):∀(m:Nat) (p:Probe),road mask (m+1) p=step mask (road mask m p)
 |0,_=>rfl
 |m+1,p=>bQr mask m (step mask p)
theorem aQy(mask:Nat):∀(a b:Nat) (p:Probe),road mask (a+b) p=road mask b (road mask a p)
 |0,b,p=>by rw[ki];rfl
 |a+1,b,p=>by
  rw[ju];exact aQy mask a b _
theorem aJp(mask:Nat)(p:Probe):(step mask p).dummy=p.dummy:=by unfold step;split <;> rfl
theorem bQs(mask i:Nat)(h:i<=mask):i<=runEnd mask i/\runEnd mask i<=mask/\runEnd mask i<=i+9:=by
 unfold runEnd;split <;> lia
structure PV(mask:Nat)(p:Probe):Prop where
 more:p.more<=9
 i:p.i<=mask
 j:p.j+p.more<=mask
 pt:p.perturb<2^64
theorem cQu(mask i pt:Nat):(leap mask i pt).1<=mask:=by
 unfold leap
 have:=lj (i*5+1+pt/32) (show 0<mask+1 by lia)
 lia
theorem PV.step{mask:Nat}(v:PV mask p):PV mask (ST.step mask p):=by
 unfold ST.step;have h1:=v.more;have h2:=v.i;have z:=v.j;have d:=v.pt
 split
 ·exact⟨by lia,h2,by lia,d⟩
 ·have l:=cQu mask p.i p.perturb;have r:=bQs mask _ l;refine⟨by lia,l,by lia,?_⟩
  exact Nat.lt_of_le_of_lt (Nat.div_le_self _ _) d
theorem PV.road{mask:Nat}:∀(m:Nat) {p:Probe},PV mask p->PV mask (ST.road mask m p)
 |0,_,v=>v
 |m+1,_,v=>PV.road m v.step
theorem fQ3(h:Int):bits h<2^64:=by
 unfold bits;have h1:=Int.emod_nonneg h (show(2^64)≠0 by decide)
 have h2:=Int.emod_lt_of_pos h (show(0:Int)<2^64 by decide)
 have:2^64=18446744073709551616:=by decide
 have:2^64=18446744073709551616:=by decide
 lia
def start(mask:Nat)(h:Int):Probe:={j:=bits h%(mask+1),more:=runEnd mask (bits h%(mask+1))-bits h%(mask+1),i:=bits h%(mask+1),perturb:=bits h,dummy:=none}
theorem aJ6(mask:Nat)(h:Int):PV mask (start mask h):=by
 have l:bits h%(mask+1)<=mask:=dI (lj _ (kj mask));have r:=bQs mask _ l;exact⟨by show _-_<=9;lia,l,by show bits h%(mask+1)+(runEnd mask (bits h%(mask+1))-bits h%(mask+1))<=mask;lia,fQ3 h⟩
theorem dZ0(mask:Nat):∀(k:Nat) (p:Probe),k<=p.more->road mask k p={p with j:=p.j+k,more:=p.more-k}
 |0,p,_=>rfl
 |k+1,p,h=>by
  show road mask k (step mask p)=_;have e:step mask p={p with j:=p.j+1,more:=p.more-1}:=by unfold step;rw[if_pos (by lia)]
  rw[e,dZ0 mask k _ (by lia)]
  rw[show p.j+1+k=p.j+(k+1) by lia,show p.more-1-k=p.more-(k+1) by lia]
theorem dZ1(mask:Nat)(p:Probe):road mask (p.more+1) p={p with j:=(leap mask p.i p.perturb).1,more:=runEnd mask (leap mask p.i p.perturb).1-(leap mask p.i p.perturb).1,i:=(leap mask p.i p.perturb).1,perturb:=(leap mask p.i p.perturb).2}:=by
 rw[bQr,dZ0 mask p.more p (am _)];unfold step;rw[if_neg (by lia)]
def aZt(mask:Nat):Nat->Nat×Nat->Nat×Nat
 |0,s=>s
 |l+1,s=>aZt mask l (leap mask s.1 s.2)
theorem aZv(mask:Nat):∀(l:Nat) (s:Nat×Nat),aZt mask (l+1) s=leap mask (aZt mask l s).1 (aZt mask l s).2
 |0,_=>rfl
 |l+1,s=>aZv mask l _
theorem bXl(mask:Nat):∀(l:Nat) (s:Nat×Nat),(aZt mask l s).2=s.2/32^l
 |0,s=>by simp[aZt]
 |l+1,s=>by
  rw[aZv];show(aZt mask l s).2/32=_;rw[bXl mask l s,Nat.div_div_eq_div_mul,jb]
theorem far(mask:Nat):∀(l:Nat) (p:Probe),PV mask p->∃m,m<=10*l/\(road mask m p).i=(aZt mask l (p.i,p.perturb)).1/\(road mask m p).perturb=(aZt mask l (p.i,p.perturb)).2/\(0<l->(road mask m p).j=(road mask m p).i)
 |0,p,_=>⟨0,am _,rfl,rfl,λh=>absurd h (cT _)⟩
 |l+1,p,v=>by
  obtain⟨m,h1,h2,z,B⟩:=far mask l p v;have d:=PV.road m v;refine⟨m+((road mask m p).more+1),?_,?_⟩
  ·have:=d.more;lia
  ·rw[aQy,dZ1,aZv,<- h2,<- z];exact⟨rfl,rfl,λ_=>rfl⟩
def f5(N x:Nat):Nat:=(x*5+1)%N
def f5s(N:Nat):Nat->Nat->Nat
 |0,x=>x
 |a+1,x=>f5s N a (f5 N x)
theorem bXm(N:Nat):∀(a b x:Nat),f5s N (a+b) x=f5s N b (f5s N a x)
 |0,b,x=>by rw[ki];rfl
 |a+1,b,x=>by rw[ju];exact bXm N a b _
def fQ4(N:Nat):Nat->Nat->List Nat->List Nat
 |0,_,acc=>acc
 |a+1,x,acc=>fQ4 N a (f5 N x) (x::acc)
theorem bJu(N:Nat):∀(a x:Nat) (acc:List Nat) (y:Nat),y∈fQ4 N a x acc->y∈acc\/∃b,b<a/\f5s N b x=y
 |0,_,_,_,h=>.inl h
 |a+1,x,acc,y,h=>by
  rcases bJu N a (f5 N x) (x::acc) y h with h|⟨b,d,e⟩
  ·rcases aw.mp h with h|h
   ·exact .inr ⟨0,kj _,h.symm⟩
   ·exact .inl h
  ·exact .inr ⟨b+1,Nat.succ_lt_succ d,e⟩
def Full(N:Nat):Prop:=f5s N N 0=0/\∀y,y<N->∃b,b<N/\f5s N b 0=y
theorem bXn(h:(f5s N N 0==0&&(aI N).all λy=>(fQ4 N N 0 []).contains y)=true):Full N:=by
 simp only[aV,beq_iff_eq,ba,aU] at h;refine⟨h.1,λy d=>?_⟩;have q:=h.2 y d;rcases bJu N N 0 [] y (by simpa using q) with z|z
 ·cases z
 ·exact z
theorem Full.from(F:Full N){x y:Nat}(hx:x<N)(hy:y<N):∃a,a<N/\f5s N a x=y:=by
 obtain⟨b,B,j⟩:=F.2 x hx;obtain⟨c,z,d⟩:=F.2 y hy
 by_cases h:b<=c
 ·refine⟨c-b,by lia,?_⟩
  rw[<- j,<- bXm,show b+(c-b)=c by lia,d]
 ·refine⟨N-b+c,by lia,?_⟩
  rw[<- j,<- bXm,show b+(N-b+c)=N+c by lia,bXm,F.1,d]
theorem gJi:Full 8:=bXn (by decide +kernel)
theorem gQ4:Full 32:=bXn (by decide +kernel)
theorem fQ5:Full 128:=bXn (by decide +kernel)
theorem fQ6:Full 512:=bXn (by decide +kernel)
def Mask(mask:Nat):Prop:=mask=7\/mask=31\/mask=127\/mask=511
theorem Mask.full{mask:Nat}(h:Mask mask):Full (mask+1):=by
 rcases h with rfl|rfl|rfl|rfl
 ·exact gJi
 ·exact gQ4
 ·exact fQ5
 ·exact fQ6
theorem bXo{mask:Nat}:∀(a:Nat) (s:Nat×Nat),s.2<32->(aZt mask a s).1=f5s (mask+1) a s.1
 |0,_,_=>rfl
 |a+1,s,h=>by
  show(aZt mask a (leap mask s.1 s.2)).1=f5s (mask+1) a (f5 (mask+1) s.1);have e:=Nat.div_eq_of_lt h;have d:(leap mask s.1 s.2).1=f5 (mask+1) s.1:=by
   show(s.1*5+1+s.2/32)%(mask+1)=_;rw[e];rfl
  rw[bXo a _ (by show s.2/32<32;lia),d]
theorem bQt(mask:Nat):∀(a b:Nat) (s:Nat×Nat),aZt mask (a+b) s=aZt mask b (aZt mask a s)
 |0,b,s=>by rw[ki];rfl
 |a+1,b,s=>by rw[ju];exact bQt mask a b _
theorem gQ5{mask:Nat}(hm:Mask mask){p:Probe}(v:PV mask p){y:Nat}(hy:y<=mask):∃m,m<10*(mask+15)/\(road mask m p).j=y:=by
 have d:(aZt mask 12 (p.i,p.perturb)).1<mask+1:=by
  rw[aZv mask 11];exact ef (cQu _ _ _)
 have z:(aZt mask 12 (p.i,p.perturb)).2<32:=by
  rw[bXl]
  have:=v.pt
  have e:2^64=18446744073709551616:=by decide
  have G:32^12=1152921504606846976:=by decide
  rw[G];lia
 obtain⟨a,J,D⟩:=hm.full.from d (ef hy)
 obtain⟨m,h1,h2,_,B⟩:=far mask (12+a) p v;refine⟨m,by lia,?_⟩
 rw[B (by lia),h2,bQt,bXo a _ z,D]
def Ris(xs:List Nat):Prop:=xs.Pairwise (· < ·)
theorem bXp(xs:Array Nat)(j:Nat)(hr:Ris xs.toList):∀(fuel lo hi:Nat),hi-lo<=fuel->lo<=hi->hi<=xs.size->(∀i,i<lo->xs.getD i j<j)->(∀i,hi<=i->i<xs.size->j<=xs.getD i j) ->
  below.go xs j fuel lo hi<=xs.size/\(∀i,i<below.go xs j fuel lo hi->xs.getD i j<j)/\∀i,below.go xs j fuel lo hi<=i->i<xs.size->j<=xs.getD i j
 |0,lo,hi,hf,hl,hs,h1,h2=>by
  have e:lo=hi:=by lia
  subst e;exact⟨hs,h1,h2⟩
 |fuel+1,lo,hi,hf,hl,hs,h1,h2=>by
  unfold below.go
  by_cases d:lo<hi
  ·rw[if_pos d];have mlt:(lo+hi)/2<xs.size:=by lia
   have mono:∀a b,a<=b->b<xs.size->xs.getD a j<=xs.getD b j:=λa b J D=>by
    rcases eK J with h|h
    ·have q:=(cb.mp hr) a b (by simpa using eA h D) (by simpa using D) h
     simp only[cW,D,eA h D,dif_pos];simpa using gk q
    ·subst h;exact am _
   by_cases B:xs.getD ((lo+hi)/2) j<j
   ·simp only[B,if_true];exact bXp xs j hr fuel _ hi (by lia) (by lia) hs (λi z=>Nat.lt_of_le_of_lt (mono i ((lo+hi)/2) (by lia) mlt) B) h2
   ·simp only[B,if_false];exact bXp xs j hr fuel lo _ (by lia) (by lia) (by lia) h1 (λi z G=>aH (Nat.le_of_not_lt B) (mono _ i z G))
  ·rw[if_neg d];have e:lo=hi:=by lia
   subst e;exact⟨hs,h1,h2⟩
theorem aZw(hr:Ris xs.toList)(j:Nat):below xs j<=xs.size/\(∀i,i<below xs j->xs.getD i j<j)/\∀i,below xs j<=i->i<xs.size->j<=xs.getD i j :=
 bXp xs j hr xs.size 0 xs.size (by lia) (by lia) (am _) (λi h=>absurd h (b8 _)) (λi h h'=>absurd h' (iC.mpr h))
theorem cZz(hr:Ris xs.toList){i j:Nat}(h:xs[i]?=some j):below xs j=i:=by
 obtain⟨hi,e⟩:=c7.mp h;obtain⟨U,G,D⟩:=aZw hr j;have O:∀k,k<xs.size->xs.getD k j=xs.getD k 0:=λk B=>by simp[cW,B]
 have N:xs.getD i j=j:=by simp[cW,hi,e]
 have inc:∀a b,a<b->b<xs.size->xs.getD a j<xs.getD b j:=λa b d z=>by
  have q:=(cb.mp hr) a b (by simpa using eA d z) (by simpa using z) d
  simp only[cW,z,eA d z,dif_pos];simpa using q
 rcases eg (below xs j) i with h|h|h
 ·have L:=inc _ _ h hi;have J:=D _ (am _) (eA h hi);lia
 ·exact h
 ·have q:=G i h;lia
structure Tab(t:aR):Prop where
 mask:Mask t.mask
 nodum:t.dummies=#[]
 ris:Ris t.place.toList
 top:∀j∈t.place.toList,j<=t.mask
theorem cQv(T:Tab t){j i:Nat}(h:t.place[i]?=some j):t.slot j=.live i:=by
 unfold k9;dsimp only;rw[cZz T.ris h,h];simp
theorem dZ2(T:Tab t){j:Nat}(h:j∉t.place.toList):t.slot j=.empty:=by
 unfold k9;dsimp only;have e:(t.place[below t.place j]?==some j)=false:=by
  cases q:t.place[below t.place j]?==some j with
  |false=>rfl
  |true =>
   have:=gX q
   obtain⟨hi,e⟩:=c7.mp this;exact absurd (by rw[<- e];simp) h
 rw[e];simp only[aJ,if_false];have d:has t.dummies j=false:=by rw[T.nodum];unfold has;simp
 rw[d];simp
theorem cJq(T:Tab t)(j:Nat):(∃i,t.slot j=.live i/\t.place[i]?=some j)\/(t.slot j=.empty/\j∉t.place.toList):=by
 by_cases h:j∈t.place.toList
 ·obtain⟨i,hi,e⟩:=bf h;have q:t.place[i]?=some j:=by
   rw[c7];exact⟨by simpa using hi,by simpa using e⟩
  exact .inl ⟨i,cQv T q,q⟩
 ·exact .inr ⟨dZ2 T h,h⟩
theorem dZ3(T:Tab t)(hashAt:Nat->Int)(h:Int):∀(fuel:Nat) (p:Probe),p.dummy=none->(∃m,m<fuel/\(road t.mask m p).j∉t.place.toList) ->
    ∃m,m<fuel/\(∀m',m'<m->∃i,t.place[i]? =some (road t.mask m' p).j/\hashAt i≠h) /\
      (((road t.mask m p).j ∉ t.place.toList /\ probe.go t hashAt h fuel p=some (.empty (road t.mask m p).j none)) \/
       ∃i,t.place[i]? =some (road t.mask m p).j/\t.slot (road t.mask m p).j=.live i/\hashAt i=h/\probe.go t hashAt h fuel p=some (.candidate (road t.mask m p).j i (road t.mask (m+1) p)))
  |0,p,_,⟨m,hm,_⟩ =>absurd hm (b8 _)
  |fuel+1,p,hd,⟨m,hm,hf⟩ =>by
    unfold probe.go;rcases cJq T p.j with⟨i,e,q⟩|⟨e,q⟩
    · rw [e]
      dsimp only
      by_cases d:hashAt i=h
      · refine⟨0,kj _,λ_ h' =>absurd h' (b8 _),.inr ⟨i,q,e,d,?_⟩⟩
        rw [if_pos (by simpa using d),aJo]
        rfl
      · rw [if_neg (by simpa using d),aJo]
        cases m with
        |zero =>exact absurd (d5.mpr (eN q)) hf
        |succ m =>
          obtain⟨z,h1,h2,D⟩:=dZ3 T hashAt h fuel (step t.mask p) (by rw [aJp]; exact hd) ⟨m,by lia,hf⟩
          refine⟨z+1,by lia,λm' B =>?_,D⟩
          cases m' with
          |zero =>exact⟨i,q,d⟩
          |succ m' =>exact h2 m' (by lia)
    · rw [e]
      exact⟨0,kj _,λ_ h' =>absurd h' (b8 _),.inl ⟨q,by rw [hd]; rfl⟩⟩
theorem bX2(T:Tab t)(hn:t.place.size<=t.mask):∃y,y<=t.mask/\y∉t.place.toList:=by
 apply aK;intro j;have all:=λy d=>aK λh=>j ⟨y,dI d,h⟩;have hl:(aI (t.mask+1)).length<=t.place.toList.length:=by
  apply List.Nodup.length_le_of_subset iD;intro y d;exact all y (aU.mp d)
 rw[di] at hl
 have:t.place.toList.length=t.place.size:=by simp
 lia
theorem cJr(T:Tab t)(hn:t.place.size<=t.mask)(hashAt:Nat->Int)(h:Int){p:Probe}(v:PV t.mask p)(hd:p.dummy=none) :
    ∃m,(∀m',m'<m->∃i,t.place[i]? =some (road t.mask m' p).j/\hashAt i≠h) /\
      (((road t.mask m p).j ∉ t.place.toList /\ t.probe hashAt h p=some (.empty (road t.mask m p).j none)) \/
       ∃i,t.place[i]? =some (road t.mask m p).j/\t.slot (road t.mask m p).j=.live i/\hashAt i=h/\t.probe hashAt h p=some (.candidate (road t.mask m p).j i (road t.mask (m+1) p))):=by
  obtain⟨y,z,hf⟩:=bX2 T hn;obtain⟨m,hm,e⟩:=gQ5 T.mask v z;obtain⟨d,_,h2,B⟩:=dZ3 T hashAt h (10*turns t.mask) p hd ⟨m,hm,by rw [e]; exact hf⟩
  exact⟨d,h2,B⟩
theorem aZz(xs:Array α)(p:Nat)(x:α)(h:p<=xs.size):(insertAt xs p x).toList=xs.toList.take p++x::xs.toList.drop p:=by
 unfold insertAt;simp only[Array.toList_append,ia,Array.toList_extract,cL,List.singleton_append];simp only[List.extract,kP,Nat.sub_zero];rw[cA (l:=List.drop p xs.toList) (by simp)]
theorem aXl{α:Type}{l:List α}{x y:α}(hp:p<=l.length)(h:(l.take p++x::l.drop p)[i]?=some y):(i<p/\l[i]?=some y)\/(i=p/\y=x)\/(p<i/\l[i-1]?=some y):=by
 have hl:(l.take p).length=p:=by rw[a7];lia
 rcases eg i p with c|c|c
 ·left
  rw[gu (by lia),jO c] at h
  exact⟨c,h⟩
 ·right;left
  subst c;rw[gh (by lia),hl,Nat.sub_self] at h
  simp at h;exact⟨rfl,h.symm⟩
 ·right;right
  rw[gh (by lia),hl] at h
  rw[show i-p=(i-1-p)+1 by lia,gZ,List.getElem?_drop] at h
  rw[show p+(i-1-p)=i-1 by lia] at h
  exact⟨c,h⟩
structure SetI(es:Array (Int×ad))(t:aR):Prop where
 tab:Tab t
 size:t.place.size=es.size
 room:es.size*5<t.mask*3
 reach:∀(i j:Nat) (e:Int×ad),t.place[i]?=some j->es[i]?=some e->∃r,(road t.mask r (start t.mask e.1)).j=j/\∀r',r'<r->(road t.mask r' (start t.mask e.1)).j∈t.place.toList
theorem SetI.le(I:SetI es t):t.place.size<=t.mask:=by have:=I.size;have:=I.room;lia
theorem SetI.fits(I:SetI es t):t.fits es.size=true:=by
 unfold la lb;rw[I.tab.nodum,I.size]
 have:=I.room
 simp only[aV,beq_iff_eq,decide_eq_true_eq];refine⟨trivial,?_⟩;simp;lia
theorem SetI.way(I:SetI es t):t.gaveWay=false:=by
 unfold aR.gaveWay;rcases I.tab.mask with e|e|e|e <;> rw[e] <;> rfl
theorem fresh_ok(f m:Nat)(led:Bool):SetI #[] (kQ f m led) where
 tab:=⟨.inl rfl,rfl,.nil,λj h=>by simp[kQ] at h⟩
 size:=rfl
 room:=by show 0*5<7*3;decide
 reach:=λi j e h=>by simp[kQ] at h
structure Put(t t':aR)(j p:Nat):Prop where
 tab:Tab t'
 mask:t'.mask=t.mask
 le:p<=t.place.size
 place:t'.place.toList=t.place.toList.take p++j::t.place.toList.drop p
theorem gQ6(T:Tab t){j:Nat}(hj:j<=t.mask)(hf:j∉t.place.toList):Put t (t.put j).1 j (t.put j).2:=by
 obtain⟨O,Z,Y⟩:=aZw T.ris j;have e:(t.put j).1.place.toList=t.place.toList.take (below t.place j)++j::t.place.toList.drop (below t.place j):=aZz _ _ _ O;have U:(t.put j).1.dummies=#[]:=by
  show(if has t.dummies j=true then _ else t.dummies)=#[]
  have q:has t.dummies j=false:=by rw[T.nodum];unfold has;simp
  rw[q];simp[T.nodum]
 refine⟨⟨T.mask,U,?_,?_⟩,rfl,O,e⟩
 ·unfold Ris;rw[e,dE,aM];have L:=T.ris;have D:∀a∈t.place.toList.take (below t.place j),a<j:=λa d=>by
   obtain⟨i,hi,J⟩:=bf d;rw[a7] at hi;have B:i<t.place.size:=by (have:t.place.toList.length=t.place.size:=by simp);lia
   have q:=Z i (by lia)
   simp only[cW,B,dif_pos] at q;rw[ib] at J;rw[<- J];simpa using q
  have G:∀a∈t.place.toList.drop (below t.place j),j<a:=λa d=>by
   obtain⟨i,hi,J⟩:=bf d;rw[bQ] at hi;have hl:t.place.toList.length=t.place.size:=by simp
   have B:below t.place j+i<t.place.size:=by lia
   have q:=Y (below t.place j+i) (by lia) B
   simp only[cW,B,dif_pos] at q;rw[jK] at J;have ne:a≠j:=λz=>hf (by rw[<- z];exact fg d)
   have q':j<=a:=by rw[<- J];simpa using q
   lia
  refine⟨L.sublist (d8 _ _),⟨G,L.sublist (List.drop_sublist _ _)⟩,λa d b N=>?_⟩;rcases aw.mp N with rfl|N
  ·exact D a d
  ·exact eA (D a d) (G b N)
 ·intro a d;rw[e] at d;rcases a6.mp d with d|d
  ·exact T.top a (gj d)
  ·rcases aw.mp d with rfl|d
   ·exact hj
   ·exact T.top a (fg d)
theorem put_set{es:Array (Int×ad)}{t:aR}(I:SetI es t){j r:Nat}{h:Int}{x:ad}(hj:j<=t.mask)(hf:j∉t.place.toList)(e:(road t.mask r (start t.mask h)).j=j)(hr:∀r',r'<r->(road t.mask r' (start t.mask h)).j∈t.place.toList) :
  ∀b,(insertAt es (t.put j).2 (h,x)).toList=es.toList.take (t.put j).2++(h,x)::es.toList.drop (t.put j).2/\(insertAt es (t.put j).2 (h,x)).size=es.size+1 /\
   Tab { (t.put j).1 with plain:=b}/\(t.put j).1.place.size=es.size+1/\(t.put j).1.mask=t.mask /\
   ∀(i j':Nat) (e':Int×ad),(t.put j).1.place[i]?=some j'->(insertAt es (t.put j).2 (h,x))[i]?=some e'->∃r,(road t.mask r (start t.mask e'.1)).j=j'/\∀r',r'<r->(road t.mask r' (start t.mask e'.1)).j∈(t.put j).1.place.toList:=by
 intro b;have P:=gQ6 I.tab hj hf;have hle:(t.put j).2<=es.size:=by rw[<- I.size];exact P.le
 have el:=aZz es (t.put j).2 (h,x) hle;have sz:(insertAt es (t.put j).2 (h,x)).size=es.size+1:=by
  have q:=congrArg eY el;rw[ax,aG,a7,bQ] at q
  have:es.toList.length=es.size:=by simp
  rw[show(insertAt es (t.put j).2 (h,x)).toList.length=(insertAt es (t.put j).2 (h,x)).size by simp] at q
  lia
 have N:(t.put j).1.place.size=es.size+1:=by
  have q:=congrArg eY P.place;rw[ax,aG,a7,bQ] at q
  have:t.place.toList.length=t.place.size:=by simp
  have:=I.size
  have:=P.le
  rw[show(t.put j).1.place.toList.length=(t.put j).1.place.size by simp] at q
  lia
 refine⟨el,sz,⟨P.tab.mask,P.tab.nodum,P.tab.ris,P.tab.top⟩,N,P.mask,λi j' e' h1 h2=>?_⟩;have sub:∀a∈t.place.toList,a∈(t.put j).1.place.toList:=λa J=>by
  rw[P.place];rw[<- b7 (t.put j).2 t.place.toList] at J;rcases a6.mp J with J|J
  ·exact cm _ J
  ·exact bq _ (ak _ J)
 have old:∀L,t.place.toList[L]?=some j'->es.toList[L]?=some e'->∃r,(road t.mask r (start t.mask e'.1)).j=j'/\∀r',r'<r->(road t.mask r' (start t.mask e'.1)).j∈(t.put j).1.place.toList:=λL a b=>by
  obtain⟨r,B,d⟩:=I.reach L j' e' (by rw[<- br];exact a) (by rw[<- br];exact b)
  exact⟨r,B,λr' D=>sub _ (d r' D)⟩
 have O:(t.place.toList.take (t.put j).2++j::t.place.toList.drop (t.put j).2)[i]?=some j':=by rw[<- P.place];simpa using h1
 have G:(es.toList.take (t.put j).2++(h,x)::es.toList.drop (t.put j).2)[i]?=some e':=by rw[<- el];simpa using h2
 rcases aXl (by simpa using P.le) O with⟨U,B⟩|⟨U,B⟩|⟨U,B⟩
 ·rcases aXl (by simpa using hle) G with⟨z,d⟩|⟨z,d⟩|⟨z,d⟩
  ·exact old i B d
  ·lia
  ·lia
 ·rcases aXl (by simpa using hle) G with⟨z,d⟩|⟨z,d⟩|⟨z,d⟩
  ·lia
  ·subst B d;exact⟨r,e,λr' D=>sub _ (hr r' D)⟩
  ·lia
 ·rcases aXl (by simpa using hle) G with⟨z,d⟩|⟨z,d⟩|⟨z,d⟩
  ·lia
  ·lia
  ·exact old (i-1) B d
abbrev Own:=Array (Option Nat)
def liveOf(mask:Nat)(owner:Own):List (Nat×Nat):=(aI (mask+1)).filterMap λj=>(owner.getD j none).map (j,·)
theorem aZc{α β:Type}{f g:α->Option β}:∀{l:List α},(∀a∈l,f a=g a)->l.filterMap f=l.filterMap g
 |[],_=>rfl
 |a::l,h=>by
  rw[ce,ce,h a aj,aZc λb d=>h b (ak _ d)]
theorem eQi{mask:Nat}(hs:owner.size=mask+1)(hj:j<=mask)(hn:owner.getD j none=none):(liveOf mask (owner.setIfInBounds j (some k))).Perm ((j,k)::liveOf mask owner):=by
 unfold liveOf;obtain⟨s,u,e⟩:=List.append_of_mem (aU.mpr (ef hj));have nd:(aI (mask+1)).Nodup:=iD;rw[e] at nd ⊢;have h1:j∉s:=λh=>by
  have:=bY.mp nd
  exact absurd rfl (this.2.2 j h j aj)
 have h2:=λh=>by
  have:=bY.mp nd
  exact(bA.mp this.2.1).1 h
 have g:∀a,a≠j->(owner.setIfInBounds j (some k)).getD a none=owner.getD a none:=λa d=>by
  rw[ci,ci,ip (bX d)]
 have B:(owner.setIfInBounds j (some k)).getD j none=some k:=by
  rw[ci,gb (by lia)];rfl
 rw[iw,iw,ce,ce,B,hn];simp only[Option.map_some,Option.map_none];rw[aZc λa d=>by rw[g a λz=>h1 (z▸d)],aZc (l:=u) λa d=>by rw[g a λz=>h2 (z▸d)]]
 exact List.perm_middle
theorem cX0{owner:Own}(h:j<owner.size)(d:Option Nat):owner.getD j d=owner[j]:=by simp[cW,h]
theorem bJv{mask:Nat}{owner:Own}(hs:owner.size=mask+1):∀(fuel:Nat) (p:Probe),PV mask p->p.j=p.i->p.more=runEnd mask p.i-p.i->(∃l,l<fuel/\owner.getD (aZt mask l (p.i,p.perturb)).1 none=none) ->
  ∃r j,layClean.free mask owner fuel p.i p.perturb=some j/\(road mask r p).j=j/\j<=mask/\owner.getD j none=none/\∀r',r'<r->(owner.getD (road mask r' p).j none).isSome=true
 |0,p,_,_,_,⟨l,h,_⟩=>absurd h (b8 _)
 |fuel+1,p,v,L,hm,⟨l,hl,hf⟩=>by
  have re:=bQs mask p.i v.i;have Y:=v.j;have B:∀k,k<=p.more->p.i+k<=mask:=λk d=>by lia
  have gd:∀k,k<=p.more->owner.getD (p.i+k) (some 0)=owner.getD (p.i+k) none:=λk d=>by
   have:p.i+k<owner.size:=by have:=B k d;lia
   rw[cX0 this,cX0 this]
  have rd:∀k,k<=p.more->(road mask k p).j=p.i+k:=λk d=>by rw[dZ0 mask k p d,<- L]
  unfold layClean.free;have U:runEnd mask p.i+1-p.i=p.more+1:=by lia
  rw[U];cases hq:(aI (p.more+1)).find? λk=>(owner.getD (p.i+k) (some 0)).isNone with
  |some k =>
   rw[List.find?_range_eq_some] at hq;obtain⟨h1,h2,N⟩:=hq;have d:=dI (aU.mp h2);refine⟨k,p.i+k,rfl,rd k d,B k d,?_,λr' D=>?_⟩
   ·rw[gd k d] at h1;exact Option.isNone_iff_eq_none.mp h1
   ·have q:=N r' D;rw[gd r' (by lia)] at q
    rw[rd r' (by lia)]
    cases e:owner.getD (p.i+r') none with
    |none=>rw[e] at q;cases q
    |some z=>rfl
  |none =>
   rw[List.find?_eq_none] at hq;have taken:∀k,k<=p.more->(owner.getD (p.i+k) none).isSome=true:=λk d=>by
    have q:=hq k (aU.mpr (ef d));rw[gd k d] at q;cases e:owner.getD (p.i+k) none with
    |none=>rw[e] at q;exact absurd rfl q
    |some z=>rfl
   cases l with
   |zero =>
    have q:=taken 0 (bN _);have G:owner.getD p.i none=none:=hf;rw[Nat.add_zero,G] at q;cases q
   |succ l =>
    have e:=dZ1 mask p;have J:PV mask (road mask (p.more+1) p):=PV.road _ v;obtain⟨r,j,f1,f2,O,f4,f5⟩:=bJv hs fuel (road mask (p.more+1) p) J (by rw[e]) (by rw[e]) ⟨l,by lia,by rw[e];exact hf⟩
    refine⟨p.more+1+r,j,?_,by rw[aQy];exact f2,O,f4,λr' D=>?_⟩
    ·rw[e] at f1;exact f1
    ·by_cases c:r'<=p.more
     ·rw[rd r' c];exact taken r' c
     ·have q:=f5 (r'-(p.more+1)) (by lia)
      rw[<- aQy,show p.more+1+(r'-(p.more+1))=r' by lia] at q
      exact q
structure OwnI(mask:Nat)(owner:Own)(hs:List Int):Prop where
 size:owner.size=mask+1
 perm:((liveOf mask owner).map (·.2)).Perm (aI hs.length)
 reach:∀(j k:Nat),owner.getD j none=some k->∃h,hs[k]?=some h/\∃r,(road mask r (start mask h)).j=j/\∀r',r'<r->(owner.getD (road mask r' (start mask h)).j none).isSome=true
theorem OwnI.free{mask:Nat}(hm:Mask mask){owner:Own}{hs:List Int}(I:OwnI mask owner hs)(hl:hs.length<=mask):∃y,y<=mask/\owner.getD y none=none:=by
 apply aK;intro B;have all:∀y,y<mask+1->(owner.getD y none).isSome=true:=λy d=>by
  cases e:owner.getD y none with
  |none=>exact absurd ⟨y,dI d,e⟩ B
  |some z=>rfl
 have len:((aI (mask+1)).filterMap λj=>(owner.getD j none).map (j,·)).length=mask+1:=by
  have gen:∀l:List Nat,(∀y∈l,(owner.getD y none).isSome=true)->(l.filterMap λj=>(owner.getD j none).map (j,·)).length=l.length:=by
   intro l
   induction l with
   |nil=>intro _;rfl
   |cons a l D =>
    intro h;obtain⟨z,e⟩:=bn.mp (h a aj);rw[ce,e];simp only[Option.map_some,aG];rw[D λy d=>h y (ak _ d)]
  rw[gen _ λy d=>all y (aU.mp d),di]
 have q:=I.perm.length_eq;rw[ae,di] at q;unfold liveOf at q;lia
theorem dZ4{mask:Nat}(hm:Mask mask){owner:Own}{y:Nat}(hy:y<=mask)(hf:owner.getD y none=none)(p:Probe)(v:PV mask p):∃l,l<turns mask/\owner.getD (aZt mask l (p.i,p.perturb)).1 none=none:=by
 have d:(aZt mask 12 (p.i,p.perturb)).1<mask+1:=by rw[aZv mask 11];exact ef (cQu _ _ _)
 have j:(aZt mask 12 (p.i,p.perturb)).2<32:=by
  rw[bXl]
  have:=v.pt
  have e:2^64=18446744073709551616:=by decide
  have B:32^12=1152921504606846976:=by decide
  rw[B];lia
 obtain⟨a,D,z⟩:=hm.full.from d (ef hy)
 refine⟨12+a,by unfold turns;lia,?_⟩
 rw[bQt,bXo a _ j,z];exact hf
def dZ5(mask:Nat)(acc:Option (Own×Nat))(h:Int):Option (Own×Nat):=do
 let (owner,k) <- acc
 let j <- layClean.free mask owner (turns mask) (bits h%(mask+1)) (bits h)
 pure (owner.setIfInBounds j (some k),k+1)
theorem cX1{mask:Nat}(hm:Mask mask):∀(hs done:List Int) (owner:Own),OwnI mask owner done->done.length+hs.length<=mask ->
  ∃owner',hs.foldl (dZ5 mask) (some (owner,done.length))=some (owner',(done++hs).length)/\OwnI mask owner' (done++hs)
 |[],done,owner,I,_=>⟨owner,by rw[cR];rfl,by rw[cR];exact I⟩
 |h::hs,done,owner,I,hl=>by
  rw[aG] at hl;obtain⟨y,U,hf⟩:=I.free hm (by lia)
  have v:=aJ6 mask h;obtain⟨r,j,f1,f2,Z,f4,f5⟩:=bJv I.size (turns mask) (start mask h) v rfl rfl (dZ4 hm U hf _ v);have J:j<owner.size:=by have:=I.size;lia
  have d:∀a,a≠j->(owner.setIfInBounds j (some done.length)).getD a none=owner.getD a none:=λa L=>by
   rw[ci,ci,ip (bX L)]
  have O:(owner.setIfInBounds j (some done.length)).getD j none=some done.length:=by
   rw[ci,gb J];rfl
  have more:∀a,(owner.getD a none).isSome=true->((owner.setIfInBounds j (some done.length)).getD a none).isSome=true:=λa L=>by
   by_cases c:a=j
   ·rw[c,O];rfl
   ·rw[d a c];exact L
  have I':OwnI mask (owner.setIfInBounds j (some done.length)) (done++[h]):=by
   refine⟨by rw[Array.size_setIfInBounds];exact I.size,?_,λa k e=>?_⟩
   ·have q:=(eQi (k:=done.length) I.size Z f4).map (·.2);rw[a8] at q;refine q.trans ?_;rw[ax,fX,iY];exact(I.perm.cons _).trans (jv _ _).symm
   ·by_cases c:a=j
    ·subst c;rw[O] at e;cases e;refine⟨h,by simp,r,f2,λD G=>more _ (f5 D G)⟩
    ·rw[d a c] at e;obtain⟨h',z,D,B,e3⟩:=I.reach a k e;exact⟨h',by rw[gu (a9.mp z).1];exact z,D,B,λx Y=>more _ (e3 x Y)⟩
  obtain⟨owner',z,B⟩:=cX1 hm hs (done++[h]) _ I' (by rw[ax,fX];lia)
  refine⟨owner',?_,by rw[cL] at B;exact B⟩
  rw[List.foldl_cons];have es:dZ5 mask (some (owner,done.length)) h=some (owner.setIfInBounds j (some done.length),done.length+1):=by
   show(do let j <- layClean.free mask owner (turns mask) (bits h%(mask+1)) (bits h);pure (owner.setIfInBounds j (some done.length),done.length+1))=_
   have N:layClean.free mask owner (turns mask) (bits h%(mask+1)) (bits h)=some j:=f1;rw[N]
   rfl
  rw[es];rw[ax,fX,cL] at z;exact z
theorem dZ6(mask:Nat):OwnI mask (gO (mask+1) none) [] where
 size:=by simp
 perm:=by
  have e:liveOf mask (gO (mask+1) none)=[]:=by
   unfold liveOf;rw[List.filterMap_eq_nil_iff];intro a d
   have:(gO (mask+1) (none:Option Nat)).getD a none=none:=by
    rw[ci,jP];split <;> rfl
   rw[this];rfl
  rw[e];exact eL _
 reach:=λj k e=>by
  have:(gO (mask+1) (none:Option Nat)).getD j none=none:=by
   rw[ci,jP];split <;> rfl
  rw[this] at e;cases e
theorem cQw{mask:Nat}(hm:Mask mask)(hs:Array Int)(hl:hs.size<=mask):∃owner,layClean mask hs=some owner/\OwnI mask owner hs.toList:=by
 obtain⟨owner,z,d⟩:=cX1 hm hs.toList [] _ (dZ6 mask) (by simpa using hl)
 refine⟨owner,?_,by simpa using d⟩
 unfold layClean
 have:hs.foldl (init:=some (gO (mask + 1) none,0)) (λacc h=>do
  let (owner,k) <- acc
  let j <- layClean.free mask owner (turns mask) (bits h%(mask+1)) (bits h)
  pure (owner.setIfInBounds j (some k),k+1))=some (owner,hs.size):=by
  rw[<- Array.foldl_toList];have q:=z;simp only[c9,dq] at q;rw[show hs.toList.length=hs.size by simp] at q
  exact q
 rw[this]
 rfl
theorem cX2{α β:Type}{f:α->Option β}:∀{l:List α},(∀a∈l,(f a).isSome=true)->(l.filterMap f).length=l.length/\∀i:Nat,(l.filterMap f)[i]?=(l[i]?).bind f
 |[],_=>⟨rfl,λi=>by simp⟩
 |a::l,h=>by
  obtain⟨z,e⟩:=bn.mp (h a aj);obtain⟨h1,h2⟩:=cX2 λb d=>h b (ak _ d);rw[ce,e];refine⟨by simp[h1],λi=>?_⟩
  cases i with
  |zero=>simp[e]
  |succ i=>simpa using h2 i
theorem cX3{mask:Nat}(h:(j,k)∈liveOf mask owner):j<=mask/\owner.getD j none=some k:=by
 obtain⟨a,d,e⟩:=dW.mp h;cases q:owner.getD a none with
 |none=>rw[q] at e;cases e
 |some z=>rw[q] at e;cases e;exact⟨dI (aU.mp d),q⟩
theorem eQj{mask:Nat}(h1:j<=mask)(h2:owner.getD j none=some k):(j,k)∈liveOf mask owner :=
 dW.mpr ⟨j,aU.mpr (ef h1),by rw[h2];rfl⟩
theorem cX4(mask:Nat)(owner:Own):Ris ((liveOf mask owner).map (·.1)):=by
 unfold Ris liveOf;rw[bu];refine lf.filterMap _ ?_ (fM);intro a j d b hb D hb';cases q:owner.getD a none with
 |none=>rw[q] at hb;cases hb
 |some z =>
  rw[q] at hb;cases hb;cases q':owner.getD j none with
  |none=>rw[q'] at hb';cases hb'
  |some B=>rw[q'] at hb';cases hb';exact d
theorem cX5{α:Type}(es:Array α):((aI es.size).filterMap λk=>es[k]?)=es.toList:=by
 apply h9;intro i;have h:=cX2 (l:=aI es.size) (f:=λk=>es[k]?) (λa d=>by
  have:=aU.mp d
  simp[this])
 rw[h.2 i]
 by_cases c:i<es.size
 ·rw[List.getElem?_range c];simp
 ·rw[bL (by simpa using c)];simp[c]
theorem dZ7{es:Array (Int×ad)}{mask' wanted:Nat}(t:aR)(hm:Mask mask')(hw:sizeAbove wanted-1=mask')(hsz:es.size*5<mask'*3) :
  ∃t' order,t.relaid (es.map (·.1)) wanted=some (t',order)/\(order.filterMap (es[·]?)).size=es.size/\SetI (order.filterMap (es[·]?)) t'/\(order.filterMap (es[·]?)).toList.Perm es.toList:=by
 obtain⟨owner,e1,I⟩:=cQw hm (es.map (·.1)) (by rw[kR];lia)
 have el:(es.map (·.1)).toList.length=es.size:=by simp
 have D:=I.perm;rw[el] at D;have ks:∀k∈(liveOf mask' owner).map (·.2),(es[k]?).isSome=true:=λk hk=>by
  have:=aU.mp (D.mem_iff.mp hk)
  simp[this]
 obtain⟨f1,f2⟩:=cX2 ks;have B:(kF (es[·]?) ((liveOf mask' owner).map (·.2)).toArray).toList=((liveOf mask' owner).map (·.2)).filterMap (λk=>es[k]?):=by simp
 have perm:(kF (es[·]?) ((liveOf mask' owner).map (·.2)).toArray).toList.Perm es.toList:=by
  rw[B,<- cX5 es];exact D.filterMap _
 have size:(kF (es[·]?) ((liveOf mask' owner).map (·.2)).toArray).size=es.size:=by
  have:=perm.length_eq
  simpa using this
 refine⟨{mask:=mask',place:=((liveOf mask' owner).map (·.1)).toArray,dummies:=#[],finger:=t.finger,led:=t.led,moves:=t.movedTo mask',plain:=t.plain},((liveOf mask' owner).map (·.2)).toArray,?_,size,?_,perm⟩
 ·unfold relaid laid;rw[hw,e1]
  rfl
 ·refine⟨⟨hm,rfl,?_,λj hj=>?_⟩,?_,?_,λi j e h1 h2=>?_⟩
  ·exact cX4 _ _
  ·have J:=hj;obtain⟨⟨a,k⟩,h,rfl⟩:=av.mp J;exact(cX3 h).1
  ·rw[size];have:=D.length_eq
   simpa using this
  ·rw[size];exact hsz
  ·have h1':((liveOf mask' owner).map (·.1))[i]?=some j:=by simpa using h1
   have d:(((liveOf mask' owner).map (·.2)).filterMap (λk=>es[k]?))[i]?=some e:=by
    rw[<- B,br];exact h2
   rw[f2 i] at d;rw[aY] at h1' d;cases q:(liveOf mask' owner)[i]? with
   |none=>rw[q] at h1';cases h1'
   |some jk =>
    obtain⟨a,k⟩:=jk;rw[q] at h1' d;have ea:=aQ h1';subst ea;have ek:es[k]?=some e:=d;obtain⟨_,Z⟩:=cX3 (bS q);obtain⟨h,O,r,Y,U⟩:=I.reach a k Z;have L:e.1=h:=by
     have:(es.map (·.1)).toList[k]?=some e.1:=by
      rw[br,Array.getElem?_map,ek];rfl
     rw[this] at O;exact aQ O
    rw[L];refine⟨r,Y,λN G=>?_⟩;obtain⟨z,ez⟩:=bn.mp (U N G);have pv:=PV.road N (aJ6 mask' h)
    have:=pv.j
    exact av.mpr ⟨_,eQj (by lia) ez,rfl⟩
theorem grow{mask n:Nat}(hm:Mask mask)(h1:n*5<mask*3)(h2:(n+1)*5>=mask*3)(hn:n+1<=300):∃mask',Mask mask'/\sizeAbove (grown (n+1))-1=mask'/\(n+1)*5<mask'*3/\¬ sizeAbove (grown (n+1))>sizeLine:=by
 rcases hm with rfl|rfl|rfl|rfl
 ·have e:n=4:=by lia
  subst e;exact⟨31,.inr (.inl rfl),by decide +kernel,by decide,by decide +kernel⟩
 ·have e:n=18:=by lia
  subst e;exact⟨127,.inr (.inr (.inl rfl)),by decide +kernel,by decide,by decide +kernel⟩
 ·have e:n=76:=by lia
  subst e;exact⟨511,.inr (.inr (.inr rfl)),by decide +kernel,by decide,by decide +kernel⟩
 ·lia
end ST
set_option maxHeartbeats 1000000
namespace ST
open PySem PySem.SetTable
def JT(t:aR):Prop:=Ris t.place.toList/\t.dummies=#[]
theorem dZ8(n:Nat):Ris (Array.range n).toList:=by
 rw[Array.toList_range];exact fM
theorem bQa(t:aR)(n:Nat):JT (t.standIn n):=⟨dZ8 n,rfl⟩
theorem gJj(h:JT t)(n:Nat):JT (t.orStandIn n):=by
 unfold SetTable.orStandIn
 split
 ·exact h
 ·exact bQa t n
theorem fQ7(hr:Ris xs.toList)(hf:j∉xs.toList):Ris (insertAt xs (below xs j) j).toList:=by
 obtain⟨J,G,D⟩:=aZw hr j;have hl:xs.toList.length=xs.size:=by simp
 unfold Ris at *
 rw[aZz _ _ _ J,dE,aM];have lo:∀a∈xs.toList.take (below xs j),a<j:=λa d=>by
  obtain⟨i,hi,rfl⟩:=bf d;rw[a7] at hi;have q:=G i (by lia)
  rw[cW,dif_pos (by lia)] at q
  simpa [ib] using q
 have up:∀a∈xs.toList.drop (below xs j),j<a:=λa d=>by
  have ne:a≠j:=λz=>hf (by rw[<- z];exact fg d)
  obtain⟨i,hi,rfl⟩:=bf d;rw[bQ] at hi;have q:=D (below xs j+i) (by lia) (by lia)
  rw[cW,dif_pos (by lia)] at q
  have L:j<=(xs.toList.drop (below xs j))[i]:=by simpa [jK] using q
  lia
 refine⟨hr.sublist (d8 _ _),⟨up,hr.sublist (List.drop_sublist _ _)⟩,λa d b B=>?_⟩;rcases aw.mp B with rfl|B
 ·exact lo a d
 ·exact eA (lo a d) (up b B)
theorem fQ8(h:JT t)(j:Nat):t.slot j≠.dummy/\(t.slot j=.empty->j∉t.place.toList):=by
 have hd:has t.dummies j=false:=by rw[h.2];unfold has;simp
 unfold k9;rw[hd]
 by_cases e:(t.place[below t.place j]?==some j)=true
 ·rw[if_pos e];exact⟨nofun,nofun⟩
 ·rw[if_neg e];refine⟨nofun,λ_ d=>e ?_⟩;obtain⟨i,hi,q⟩:=bf d;have q:=c7.mpr ⟨by simpa using hi,by simpa using q⟩
  rw[cZz h.1 q,q];simp
theorem gQ7(h:JT t)(f:Nat->Int)(x:Int):∀(n:Nat) (p:Probe) (j:Nat) (d:Option Nat),p.dummy=none->probe.go t f x n p=some (.empty j d)->j∉t.place.toList/\d=none
 |0,p,j,d,_,e=>by cases e
 |n+1,p,j,d,z,e=>by
  have B:(t.advance p).dummy=none:=by rw[aJo,aJp];exact z
  unfold probe.go at e;obtain⟨s1,s2⟩:=fQ8 h p.j;cases hs:t.slot p.j with
  |empty=>rw[hs] at e;cases e;exact⟨s2 hs,z⟩
  |dummy=>exact absurd hs s1
  |live i =>
   rw[hs] at e;dsimp only at e
   split at e
   ·cases e
   ·exact gQ7 h f x n _ j d B e
theorem gQ8(h:JT t)(es:Array (Int×ad))(x:Int)(v:ad):JT (layNew t es x v).2.1:=by
 unfold layNew;cases hf:t.freeSlot x with
 |none=>exact bQa _ _
 |some q =>
  obtain⟨j,b⟩:=q;refine gJj ?_ _;unfold aR.freeSlot at hf
  split at hf
  ·rename_i z d B;obtain⟨h1,h2⟩:=gQ7 h _ _ _ _ _ _ rfl B;subst h2;cases hf;have hd:has t.dummies z=false:=by rw[h.2];unfold has;simp
   refine⟨fQ7 h.1 h1,?_⟩;show(if has t.dummies z=true then _ else t.dummies)=#[]
   rw[hd,if_neg cD];exact h.2
  ·cases hf
theorem gQ9(t:aR)(es:Array (Int×ad))(n:Nat):JT (iQ t es n).2.1:=by
 unfold iQ
 split
 ·rename_i j order hq;dsimp only
  split
  ·unfold relaid laid at hq;cases hc:layClean (sizeAbove n-1) (Array.map (·.1) es) with
   |none=>rw[hc] at hq;cases hq
   |some d =>
    rw[hc] at hq;cases hq;refine⟨?_,rfl⟩
    have:=cX4 (sizeAbove n-1) d
    simpa [liveOf] using this
  ·exact bQa _ _
 ·exact bQa _ _
theorem eQk(led:Bool):JT (.fresh 0 0 led):=⟨.nil,rfl⟩
end ST
set_option maxHeartbeats 4000000
namespace ST
open PySem PySem.SetTable PySem.Spec PyProof.Rows
section
variable{prog:aA}{w:aO}{A:aW}{E:ad->ai->Prop}{s:ai}
def TK(prog:aA)(w:aO)(h:bd)(k:List Str)(v:ad):Prop:=∃b,v=.ref b/\IsTupleKey (strKind prog w) h k b
theorem TK.inj(a:TK prog w h k v)(b:TK prog w h k' v):k=k':=by
 obtain⟨j,rfl,h1⟩:=a;obtain⟨d,e,h2⟩:=b;cases e;exact h1.inj h2
abbrev hashT(prog:aA)(w:aO)(k:List Str):Int:=tupleKeyHash (strKind prog w) k
theorem bXq(h:ItemsAre (strKind prog w) k vs):∀v∈vs,∃x t,v=jh x t:=by
 induction h with
 |nil=>intro v hv;cases hv
 |cons h1 _ d =>
  intro v hv;rcases aw.mp hv with rfl|hv
  ·obtain⟨t,e⟩:=fu h1;exact⟨_,t,e⟩
  ·exact d v hv
theorem cX6(hk:TK prog w s.heap k v)(h:Q false s):aD (aE prog w) A (f6 8 v) Q E s:=by
 obtain⟨b,rfl,hk⟩:=hk;have B:=hk.typeIs;obtain⟨o,items,n,z,_,hd,hi⟩:=hk;unfold f6;refine aa (hW B ?_);simp only[beq_self_eq_true,if_true];refine aa (ag ?_);simp only[gF,aJ,if_false];refine aa (d6 z hd ?_);refine aa ?_;rw[<- Array.forIn_toList];refine iE _ (λrest r s'=>r.1=none/\s'=s/\∀v∈rest,∃x t,v=jh x t) _ ?_ ?_ _ _ ⟨rfl,rfl,bXq hi⟩
 ·rintro x rest r s' ⟨j,rfl,d⟩;obtain⟨y,t,rfl⟩:=d x aj;refine aa (ag ?_);simp only[aJ,if_false];exact ag ⟨rfl,rfl,λu hu=>d u (ak _ hu)⟩
 ·rintro⟨G,D⟩ s' ⟨j,rfl,_⟩;simp only at j;subst j;exact ag h
theorem eXg(hk:TK prog w s.heap k v)(h:Q true s):aD (aE prog w) A (eqIsQuiet 8 v) Q E s:=by
 obtain⟨b,rfl,hk⟩:=hk;exact wpAny_eqIsQuiet_tuple hk h
theorem fQ9{stored:List ad}(hx:TK prog w s.heap k x)(hs:∀y∈stored,∃k',TK prog w s.heap k' y)(h:Q false s) :
  aD (aE prog w) A (searchCouldBeSeen x stored) Q E s:=by
 refine aa (iE _ (λrest r s'=>r.1=none/\s'=s/\∀y∈rest,∃k',TK prog w s.heap k' y) _ ?_ ?_ _ _ ⟨rfl,rfl,hs⟩)
 ·rintro y rest r s' ⟨J,rfl,d⟩;obtain⟨k',G⟩:=d y aj;have fin:=λz N=>d z (ak _ N);obtain⟨L,ex,_⟩:=id hx;obtain⟨B,O,_⟩:=id G
  have main:∀ c:Bool,aD (aE prog w) A (if c=true then pure (cx ((none,()))) else do
    if !(<- eqIsQuiet 8 x) then pure (ic (some true,())) else
    if !(<- eqIsQuiet 8 y) then pure (ic (some true,())) else
    if <- f6 8 x then pure (ic (some true,())) else
    if <- f6 8 y then pure (ic (some true,())) else pure (cx (none,())))
    (λr j=>match r with
     |cx D=>D.fst=none/\j=s'/\∀(y:ad),y∈rest->∃k',TK prog w s'.heap k' y
     |ic D=>False) E s':=by
   intro c;cases c with
   |true=>exact ag ⟨rfl,rfl,fin⟩
   |false =>
    simp only[aJ,if_false];refine aa (eXg hx ?_);simp only[gF,aJ,if_false];refine aa (eXg G ?_);simp only[gF,aJ,if_false];refine aa (cX6 hx ?_);simp only[aJ,if_false];refine aa (cX6 G ?_);simp only[aJ,if_false];exact ag ⟨rfl,rfl,fin⟩
  rw[ex,O] at main ⊢;refine cO (main ((L==B)||(carriedByValue (.ref L)&&carriedByValue (.ref B)))) (λr s1 h=>?_) (λ_ _ e=>e)
  cases r with
  |yield D=>exact h
  |done D=>exact h.elim
 ·rintro⟨Y,U⟩ s' ⟨J,rfl,_⟩;simp only at J;subst J;exact ag h
def ElT(prog:aA)(w:aO)(h:bd)(es:List (Int×ad)):Prop:=∀e∈es,∃k,TK prog w h k e.2/\e.1=hashT prog w k
structure SetAt(h:bd)(a:Addr)(es:Array (Int×ad))(ep:Nat)(t:aR):Prop where
 obj:h.get? a=some {cls:=.type "set",dict:=none,data:=.set es ep t}
 inv:SetI es t
theorem SetAt.state(S:SetAt s.heap a es ep t)(h:Q (es,ep,t) s):aD (aE prog w) A (setState a) Q E s :=
 dJ S.obj rfl S.inv.fits h
theorem cQx(S:SetAt s.heap a es ep t)(hu:A.units<bR)(hel:ElT prog w s.heap es.toList)(hx:TK prog w s.heap k x)
  {M0:Nat}(hM:(road t.mask M0 (start t.mask (hashT prog w k))).j∉t.place.toList) {Q:SetFound->ai->Prop}
  (hfound:∀i?,(adding=true\/i?.isSome=true)->(∃e∈es.toList,TK prog w s.heap k e.2)->Q (.there i?) s)
  (hfree:∀j r,j<=t.mask->j∉t.place.toList->(road t.mask r (start t.mask (hashT prog w k))).j=j->(∀r',r'<r->(road t.mask r' (start t.mask (hashT prog w k))).j∈t.place.toList)->(¬ ∃e∈es.toList,TK prog w s.heap k e.2)->Q (.free j false) s) :
  ∀(fuel m:Nat) (stand:Option Probe),M0<fuel+m->stand.getD (t.probeStart (hashT prog w k))=road t.mask m (start t.mask (hashT prog w k)) ->
   (∀m',m'<m->∃(i:Nat) (e:Int×ad),t.place[i]?=some (road t.mask m' (start t.mask (hashT prog w k))).j/\es[i]?=some e/\¬ TK prog w s.heap k e.2)->m<=M0 ->
   aD (aE prog w) A (setSearchFrom a x (hashT prog w k) adding fuel stand) Q E s
 |0,m,stand,hf,_,_,hm=>by lia
 |fuel+1,m,stand,hf,hst,Y,hm=>by
  refine aa (S.state ?_);dsimp only;rw[S.inv.way];simp only[aJ,if_false];have v:=PV.road m (aJ6 t.mask (hashT prog w k));have dn:∀m,(road t.mask m (start t.mask (hashT prog w k))).dummy=none:=λm=>by
   induction m with
   |zero=>rfl
   |succ m ih=>rw[bQr,aJp];exact ih
  obtain⟨J,p1,p2⟩:=cJr S.inv.tab S.inv.le (λi=>(es[i]?.map (·.1)).getD 0) (hashT prog w k) v (dn m);rw[hst];have ahead:∀r,r<m+J->∃(i:Nat) (e:Int×ad),t.place[i]?=some (road t.mask r (start t.mask (hashT prog w k))).j/\es[i]?=some e/\¬ TK prog w s.heap k e.2:=λr hr=>by
   by_cases c:r<m
   ·exact Y r c
   ·obtain⟨i,G,q2⟩:=p1 (r-m) (by lia)
    rw[<- aQy,show m+(r-m)=r by lia] at G
    obtain⟨hi,_⟩:=c7.mp G;have N:i<es.size:=by rw[<- S.inv.size];exact hi
    have O:es[i]?=some es[i]:=by simp[N]
    refine⟨i,es[i],G,O,λz=>q2 ?_⟩;obtain⟨L,z',eh⟩:=hel es[i] (by simp)
    rw[O];show es[i].1=_;rw[eh,z'.inj z]
  have inplace:∀r,r<m+J->(road t.mask r (start t.mask (hashT prog w k))).j∈t.place.toList:=λr hr=>by
   obtain⟨i,e,q,_⟩:=ahead r hr;exact d5.mpr (eN q)
  have hmM:m+J<=M0:=by
   rcases bU M0 (m+J) with c|c
   ·exact absurd (inplace M0 c) hM
   ·exact c
  rcases p2 with⟨G,q2⟩|⟨i,G,q2,q3,q4⟩
  ·generalize hP:aR.probe t _ (hashT prog w k) (road t.mask m (start t.mask (hashT prog w k)))=pr;have e2:pr=some (.empty (road t.mask J (road t.mask m (start t.mask (hashT prog w k)))).j none):=by rw[<- hP];exact q2
   rw[e2];rw[<- aQy] at G ⊢;have pv:=(PV.road (m+J) (aJ6 t.mask (hashT prog w k))).j;refine ag (hfree _ (m+J) (by lia) G rfl inplace ?_)
   rintro⟨e,he,hke⟩;obtain⟨i,hi,ei⟩:=bf he;have O:es[i]?=some e:=by
    have h2:i<es.size:=by simpa using hi
    rw[<- ei];simp[h2]
   have N:i<t.place.size:=by rw[S.inv.size];simpa using hi
   obtain⟨r,r1,r2⟩:=S.inv.reach i t.place[i] e (by simp[N]) O
   obtain⟨L,z',eh⟩:=hel e he;have hk':=z'.inj hke;rw[eh,hk'] at r1 r2;rcases bU r (m+J) with c|c
   ·obtain⟨i',e',a1,a2,a3⟩:=ahead r c;rw[r1] at a1;have s1:=cQv S.inv.tab a1;have s2:=cQv (j:=t.place[i]) (i:=i) S.inv.tab (by simp[N])
    rw[s1] at s2;cases s2;rw[O] at a2;cases a2;exact a3 hke
   ·rcases eK c with c|c
    ·exact G (r2 _ c)
    ·rw[c,r1] at G;exact G (by simp)
  ·generalize hP:aR.probe t _ (hashT prog w k) (road t.mask m (start t.mask (hashT prog w k)))=pr;have e2:pr=some (.candidate (road t.mask J (road t.mask m (start t.mask (hashT prog w k)))).j i (road t.mask (J+1) (road t.mask m (start t.mask (hashT prog w k))))):=by rw[<- hP];exact q4
   rw[e2];have N:i<es.size:=by
    obtain⟨hi,_⟩:=c7.mp G;rw[<- S.inv.size];exact hi
   have O:es[i]?=some es[i]:=by simp[N]
   obtain⟨L,hy,eh⟩:=hel es[i] (by simp)
   by_cases U:t.led=true
   ·rw[U];simp only[gF,aJ,if_false];rw[O];obtain⟨b,eb,hb⟩:=hy;obtain⟨bx,ex,hbx⟩:=id hx;have D:es[i]=(es[i].1,fV b):=by rw[<- eb]
    rw[D];refine aa (bF ?_);rw[ex];refine wpAny_eqBool_tuple hu hb hbx ?_;refine aa (S.state ?_);have yes:L=k->∃e∈es.toList,TK prog w s.heap k e.2:=λc=>⟨es[i],by simp,⟨b,eb,c▸hb⟩⟩
    by_cases B:(adding&&decide (L=k))=true
    ·rw[if_pos B];have c:L=k:=by
      simp only[aV,decide_eq_true_eq] at B;exact B.2
     exact ag (hfound none (.inl (by simp only[aV] at B;exact B.1)) (yes c))
    ·rw[if_neg B];have sm:t.sameMemory t.moves t.mask=some true:=by unfold sameMemory;rw[if_pos (by simp)]
     rw[sm];dsimp only;rw[if_pos rfl,q2];dsimp only;rw[O,D];refine aa (wpAny_isSame_ref_self ?_);rw[if_pos rfl];refine aa (ag ?_);dsimp only
     by_cases c:L=k
     ·rw[decide_eq_true c,if_pos rfl];exact ag (hfound _ (.inr rfl) (yes c))
     ·rw[decide_eq_false c,if_neg cD];rw[<- ex];refine cQx S hu hel hx hM hfound hfree fuel (m+J+1) _ (by lia) ?_ (λr hr=>?_) ?_
      ·show road t.mask (J+1) (road t.mask m _)=_;rw[<- aQy,Nat.add_assoc]
      ·rcases eK (dI hr) with d|d
       ·exact ahead r d
       ·rw[d];rw[<- aQy] at G;refine⟨i,es[i],G,O,λz=>c ?_⟩;exact TK.inj ⟨b,eb,hb⟩ z
      ·rcases eK hmM with d|d
       ·exact d
       ·rw[<- aQy] at G;rw[d] at G;exact absurd (d5.mpr (eN G)) hM
   ·have Z:=fc.mpr U;rw[Z];simp only[kS,if_true];refine aa (fQ9 hx (λy hy'=>?_) ?_)
    ·obtain⟨e,he,rfl⟩:=av.mp hy';have he':e∈es.toList:=by
      have:=d5.mp he
      exact d5.mpr (Array.mem_filter.mp this).1
     obtain⟨L,z,_⟩:=hel e he';exact⟨L,z⟩
    ·simp only[aJ,if_false];rw[O];obtain⟨b,eb,hb⟩:=hy;obtain⟨bx,ex,hbx⟩:=id hx;have D:es[i]=(es[i].1,fV b):=by rw[<- eb]
     rw[D];refine aa (bF ?_);rw[ex];refine wpAny_eqBool_tuple hu hb hbx ?_;refine aa (S.state ?_);have yes:L=k->∃e∈es.toList,TK prog w s.heap k e.2:=λc=>⟨es[i],by simp,⟨b,eb,c▸hb⟩⟩
     by_cases B:(adding&&decide (L=k))=true
     ·rw[if_pos B];have c:L=k:=by
       simp only[aV,decide_eq_true_eq] at B;exact B.2
      exact ag (hfound none (.inl (by simp only[aV] at B;exact B.1)) (yes c))
     ·rw[if_neg B];have sm:t.sameMemory t.moves t.mask=some true:=by unfold sameMemory;rw[if_pos (by simp)]
      rw[sm];dsimp only;rw[if_pos rfl,q2];dsimp only;rw[O,D];refine aa (wpAny_isSame_ref_self ?_);rw[if_pos rfl];refine aa (ag ?_);dsimp only
      by_cases c:L=k
      ·rw[decide_eq_true c,if_pos rfl];exact ag (hfound _ (.inr rfl) (yes c))
      ·rw[decide_eq_false c,if_neg cD];rw[<- ex];refine cQx S hu hel hx hM hfound hfree fuel (m+J+1) _ (by lia) ?_ (λr hr=>?_) ?_
       ·show road t.mask (J+1) (road t.mask m _)=_;rw[<- aQy,Nat.add_assoc]
       ·rcases eK (dI hr) with d|d
        ·exact ahead r d
        ·rw[d];rw[<- aQy] at G;refine⟨i,es[i],G,O,λz=>c ?_⟩;exact TK.inj ⟨b,eb,hb⟩ z
       ·rcases eK hmM with d|d
        ·exact d
        ·rw[<- aQy] at G;rw[d] at G;exact absurd (d5.mpr (eN G)) hM
end
section
variable{prog:aA}{w:aO}{A:aW}{E:ad->ai->Prop}{s:ai}
theorem cQy(a:Addr)(wanted:Nat):setRelay a wanted=(do
 let (es,_,t) <- setState a
 if aR.sizeAbove wanted>sizeLine then iR "set:memory"
 let (es,t) <- (do
  let some (t,order):=t.relaid (es.map (·.1)) wanted|iR "internal:set-table-without-room"
  let es':=order.filterMap (es[·]?)
  if es'.size !=es.size then iR "internal:set-table-lost-an-element"
  pure (es',t))
 storeSet a es t):=by rfl
theorem hbvT(hk:TK prog w s.heap k v)(h:Q (decide (k=[])) s):aD (aE prog w) A (hashByValue 8 v) Q E s:=by
 obtain⟨b,rfl,hk⟩:=hk;have B:=hk.typeIs;refine hd λG d=>?_;obtain⟨o,items,n,z,_,hd,hi⟩:=hk;refine d ?_;refine aa (wpAny_specialOf B PySem.F.slot_tuple_hash.lookup ?_);refine aa (d6 z hd ?_);refine aa ?_;show aD _ _ (forIn items _ _) _ _ s;rw[<- Array.forIn_toList];generalize hits:items.toList=j at hi;cases hi with
 |nil =>
  rw[List.forIn_nil];exact ag (ag h)
 |cons h1 h2 =>
  obtain⟨t,e⟩:=fu h1;subst e;rw[gM];have D:∀n x t,hashByValue n (jh x t)=pure false:=λn x t=>by unfold hashByValue;rfl
  rw[D];refine aa (aa (ag ?_));simp only[kS,if_true];refine ag ?_;exact ag (ag (by simpa using h))
def bX3(prog:aA)(w:aO)(h:bd)(es:List (Int×ad))(t:aR):Prop:=t.plain=true->∀e∈es,TK prog w h [] e.2
theorem addT(S:SetAt s.heap a es ep t)(hu:A.units<bR)(hel:ElT prog w s.heap es.toList)(hpl:bX3 prog w s.heap es.toList t)(hx:TK prog w s.heap k x)(hn:es.size+1<=300){Q:Bool->ai->Prop}
  (h:∀ h' es' ep' t' added,SetAt h' a es' ep' t'->dZ a s.heap h'->bX3 prog w s.heap es'.toList t'->t'.led=t.led ->
   ((added=false/\es'=es/\∃e∈es.toList,TK prog w s.heap k e.2)\/(added=true/\es'.toList.Perm ((hashT prog w k,x)::es.toList)/\¬ ∃e∈es.toList,TK prog w s.heap k e.2))->Q added {s with heap:=h'}) :
  aD (aE prog w) A (kl a x (hashT prog w k)) Q E s:=by
 refine bF (aa (S.state ?_));dsimp only;have hbs:byScan x es=false:=by
  obtain⟨b,rfl,_⟩:=hx
  rfl
 rw[hbs];simp only[aJ,if_false];refine hd λGq J=>?_;obtain⟨y,hy,hf⟩:=bX2 S.inv.tab S.inv.le;refine J ?_;refine hd λGq J=>?_;obtain⟨m,hm,e⟩:=gQ5 S.inv.tab.mask (aJ6 t.mask (hashT prog w k)) hy;refine J ?_;have hm':m<100000+0:=by
  have:=S.inv.tab.mask
  have:t.mask<=511:=by rcases this with z|z|z|z <;> lia
  lia
 refine aa ?_;refine cQx S hu hel hx (by rw[e];exact hf) (λi? _ hyes=>?_) (λj r hj hfj ej hrj hno=>?_) 100000 0 none hm' rfl (λm' h'=>absurd h' (b8 _)) (bN _)
 ·have q:=h s.heap es ep t false S (lv a s.heap) hpl rfl (.inl ⟨rfl,rfl,hyes⟩);exact ag q
 ·refine aa (S.state ?_);have P:=put_set (x:=x) S.inv hj hfj ej hrj true;refine hd λGq J=>?_;obtain⟨p1,p2,p3,p4,p5,p6⟩:=P;refine J ?_;have Z:=p3.nodum;have p3r:=p3.ris;have p3t:=p3.top;generalize hes:aR.insertAt es (t.put j).2 (hashT prog w k,x)=d at p1 p2 p6 ⊢;have B:d.toList.Perm ((hashT prog w k,x)::es.toList):=by
   rw[p1];refine List.perm_middle.trans ?_;rw[b7]
  have rest:∀ tt:aR,tt.place=(t.put j).1.place->tt.dummies=#[]->tt.mask=t.mask->tt.led=t.led->(tt.plain=true->t.plain=true/\k=[])->aD (aE prog w) A (do
    storeSet a d tt
    if (!false&&tt.tooFull)=true then do
     setRelay a (dj (es.size+1))
     pure true
    else pure true) Q E s:=by
   intro tt h1 h2 h3 h4 h5;have T':Tab tt:=⟨by rw[h3];exact S.inv.tab.mask,h2,by rw[h1];exact p3r,λa ha=>by rw[h1] at ha;rw[h3,<- p5];exact p3t a ha⟩
   have G:∀L:List (Int×ad),L.Perm ((hashT prog w k,x)::es.toList)->∀t2:aR,t2.plain=tt.plain->bX3 prog w s.heap L t2:=by
    intro L hp t2 ht2 hpt ee hee;rw[ht2] at hpt;refine hd λGq J=>?_;obtain⟨q1,q2⟩:=h5 hpt;refine J ?_;rcases aw.mp (hp.mem_iff.mp hee) with q|q
    ·rw[q,<- q2];exact hx
    ·exact hpl q1 ee q
   have hz:d.size<=sizeLine:=by rw[p2,aZ];lia
   refine aa (ie S.obj rfl ?_ hz);have O:(s.heap.update a (dX d tt)).get? a=some {cls:=.type "set",dict:=none,data:=.set d (ep+1) tt}:=by
    have:=cF (dX d tt) S.obj (by rw[iF _ _ rfl];rfl)
    rw[iF _ _ rfl] at this;exact this
   have U:=bV s.heap a (dX d tt);have tf:tt.tooFull=decide ((es.size+1)*5>=t.mask*3):=by
    unfold aR.tooFull lb;rw[h2,h1,p4,h3]
    rfl
   have room:=S.inv.room
   by_cases D:(es.size+1)*5>=t.mask*3
   ·rw[tf,decide_eq_true D];simp only[kS,Bool.and_self,if_true];refine hd λGq J=>?_;obtain⟨mask',hm1,hm2,hm3,hm4⟩:=grow S.inv.tab.mask room D hn;refine J ?_;refine hd λGq J=>?_;obtain⟨t',order,r1,r2,r3,r4⟩:=dZ7 tt hm1 hm2 (by rw[p2];exact hm3);refine J ?_
    have Y:t'.led=tt.led/\t'.plain=tt.plain:=by
     unfold relaid laid at r1;cases hq:layClean (sizeAbove (grown (es.size+1))-1) (Array.map (·.1) d) with
     |none=>rw[hq] at r1;cases r1
     |some ow=>rw[hq] at r1;cases r1;exact⟨rfl,rfl⟩
    have hfit1:tt.fits d.size=true:=by
     unfold la lb
     have:t.mask>=7:=by rcases S.inv.tab.mask with z|z|z|z <;> lia
     simp only[aV,beq_iff_eq,decide_eq_true_eq];rw[h2,h1,p4,p2,h3];refine⟨rfl,?_⟩;show es.size+1+0<=t.mask;lia
    refine aa ?_;rw[cQy];refine aa (dJ O rfl hfit1 ?_);dsimp only;rw[if_neg hm4,r1];dsimp only;rw[r2];simp only[bne_self_eq_false,aJ,if_false,jZ];have hz2:(order.filterMap (d[·]?)).size<=sizeLine:=by rw[r2];exact hz
    refine ie O rfl ?_ hz2;have ho2:((s.heap.update a (dX d tt)).update a (dX (order.filterMap (d[·]?)) t')).get? a=some {cls:=.type "set",dict:=none,data:=.set (order.filterMap (d[·]?)) (ep+1+1) t'}:=by
     have:=cF (dX (order.filterMap (d[·]?)) t') O (by rw[iF _ _ rfl];rfl)
     rw[iF _ _ rfl] at this;exact this
    have hsb2:=U.trans (bV (s.heap.update a (dX d tt)) a (dX (order.filterMap (d[·]?)) t'));exact ag (h _ _ _ _ true ⟨ho2,r3⟩ hsb2 (G _ (r4.trans B) _ Y.2) (Y.1.trans h4) (.inr ⟨rfl,r4.trans B,hno⟩))
   ·rw[tf,decide_eq_false D];simp only[kO,aJ,if_false];have I':SetI d tt:=by
     refine⟨T',by rw[h1,p4,p2],by rw[h3,p2];lia,λi j' e' q1 q2=>?_⟩
     rw[h1] at q1;refine hd λGq J=>?_;obtain⟨r,r1,r2⟩:=p6 i j' e' q1 q2;refine J ?_;rw[h3,h1];exact⟨r,r1,r2⟩
    exact ag (h _ _ (ep+1) _ true ⟨O,I'⟩ U (G _ B _ rfl) h4 (.inr ⟨rfl,B,hno⟩))
  by_cases hp:t.plain=true
  ·have N:(t.put j).1.plain=true:=hp;rw[N];simp only[if_true];refine aa (hbvT hx ?_)
   by_cases hk:k=[]
   ·rw[decide_eq_true hk];simp only[if_true];exact rest (t.put j).1 rfl Z p5 rfl (λ_=>⟨hp,hk⟩)
   ·rw[decide_eq_false hk];simp only[aJ,if_false];exact rest { (t.put j).1 with plain:=false} rfl Z p5 rfl (λz=>nomatch z)
  ·have N:(t.put j).1.plain=false:=fc.mpr hp;rw[N];simp only[aJ,if_false];refine aa (ag ?_);simp only[if_true];exact rest (t.put j).1 rfl Z p5 rfl (λz=>by rw[N] at z;cases z)
theorem fQa(S:SetAt s.heap a es ep t)(hu:A.units<bR)(hel:ElT prog w s.heap es.toList)(hpl:bX3 prog w s.heap es.toList t)(hx:TK prog w s.heap k x)(hn:es.size+1<=300){Q:Bool->ai->Prop}
  (h:∀ h' tk es' ep' t' added,SetAt h' a es' ep' t'->dZ a s.heap h'->bX3 prog w s.heap es'.toList t'->t'.led=t.led->s.toks<=tk ->
   ((added=false/\es'=es/\∃e∈es.toList,TK prog w s.heap k e.2)\/(added=true/\es'.toList.Perm ((hashT prog w k,x)::es.toList)/\¬ ∃e∈es.toList,TK prog w s.heap k e.2))->Q added {s with heap:=h',toks:=tk}) :
  aD (aE prog w) A (setAdd a x) Q E s:=by
 obtain⟨b,rfl,d⟩:=id hx;refine bF (aa (wpAny_pyHash_tuple hu d ?_));exact addT (s:={s with toks:=s.toks+(k.length+1)}) S hu hel hpl hx hn λh' es' ep' t' added h1 h2 B z j=>h h' _ es' ep' t' added h1 h2 B z (fz _ _) j
end
def TupKeep(h h':bd):Prop:=∀b o,h.get? b=some o->o.cls=.type "tuple"->h'.get? b=some o
theorem TupKeep.trans(x:TupKeep a b)(y:TupKeep b c):TupKeep a c:=λd o e h=>y d o (x d o e h) h
def setOb(es:Array (Int×ad))(ep:Nat)(t:aR):Obj:={cls:=.type "set",dict:=none,data:=.set es ep t}
structure SetKd(prog:aA)(w:aO)(κ:Type) where
 pk:Bool
 is:bd->κ->ad->Prop
 I:bd->Addr->Array (Int×ad)->Nat->aR->Prop
 inj:∀{h:bd}{k k':κ}{v:ad},is h k v->is h k' v->k=k'
 obj:∀{h:bd}{a:Addr}{es:Array (Int×ad)}{ep:Nat}{t:aR},I h a es ep t->h.get? a=some (setOb es ep t)
 fits:∀{h:bd}{a:Addr}{es:Array (Int×ad)}{ep:Nat}{t:aR},I h a es ep t->t.fits es.size=true
 few:pk=false->∀{h:bd}{a:Addr}{es:Array (Int×ad)}{ep:Nat}{t:aR}{ks:List κ},I h a es ep t->bc (λ(e:Int×ad) k=>is h k e.2) es.toList ks->ks.Nodup->t.plain=true->es.size<=1
 fresh:∀{h:bd}{a:Addr}{led:Bool},h.get? a=some (setOb #[] 0 (.fresh 0 0 led))->I h a #[] 0 (.fresh 0 0 led)
 keepIs:∀{h h':bd}{k:κ}{v:ad},is h k v->TupKeep h h'->is h' k v
 keepI:∀{h h':bd}{a:Addr}{es:Array (Int×ad)}{ep:Nat}{t:aR},I h a es ep t->h'.get? a=h.get? a->TupKeep h h'->I h' a es ep t
 add:∀{A:aW}{E:ad->ai->Prop}{s:ai}{a:Addr}{es:Array (Int×ad)}{ep:Nat}{t:aR}{k:κ}{x:ad}{Q:Bool->ai->Prop},A.units<bR->I s.heap a es ep t->is s.heap k x->es.size+1<=300 ->
  (∀ h' tk es' ep' t' added,I h' a es' ep' t'->dZ a s.heap h'->t'.led=t.led->s.toks<=tk ->
   ((added=false/\es'=es/\∃e∈es.toList,is s.heap k e.2)\/(added=true/\(∃hh,es'.toList.Perm ((hh,x)::es.toList))/\¬ ∃e∈es.toList,is s.heap k e.2))->Q added {s with heap:=h',toks:=tk}) ->
  aD (aE prog w) A (setAdd a x) Q E s
theorem aXx(ho:h.get? a=some (setOb es ep t))(sb:dZ a h h'):TupKeep h h':=λb o e c=>by
 refine(sb.2 b ?_).trans e;rintro rfl;rw[ho] at e;have j:=(aQ e).symm;rw[j] at c;have z:=c;injection z with d
 exact absurd d (by decide)
section
variable{prog:aA}{w:aO}
theorem TK.keep(x:TK prog w h k v)(kp:TupKeep h h'):TK prog w h' k v:=by
 obtain⟨b,rfl,o,items,n,j,d,hd,hi⟩:=x;exact⟨b,rfl,o,items,n,kp b o j d,d,hd,hi⟩
theorem paired_mem{R:α->β->Prop}:∀{l:List α}{m:List β},bc R l m->∀a∈l,∃b∈m,R a b
 |_,_,.nil,a,h=>nomatch h
 |_,_,.cons r t,a,h=>by
  rcases aw.mp h with rfl|h
  ·exact⟨_,aj,r⟩
  ·obtain⟨b,d,q⟩:=paired_mem t a h;exact⟨b,ak _ d,q⟩
theorem paired_mem'{R:α->β->Prop}:∀{l:List α}{m:List β},bc R l m->∀b∈m,∃a∈l,R a b
 |_,_,.nil,a,h=>nomatch h
 |_,_,.cons r t,a,h=>by
  rcases aw.mp h with rfl|h
  ·exact⟨_,aj,r⟩
  ·obtain⟨b,d,q⟩:=paired_mem' t a h;exact⟨b,ak _ d,q⟩
theorem paired_perm{R:α->β->Prop}{l l':List α}(p:l'.Perm l):∀{m:List β},bc R l m->∃m',m'.Perm m/\bc R l' m':=by
 have gen:∀{l l':List α},l.Perm l'->∀{m:List β},bc R l m->∃m',m'.Perm m/\bc R l' m':=by
  intro l l' p
  induction p with
  |nil=>intro m h;cases h;exact⟨[],eL _,.nil⟩
  |cons x _ G =>
   intro m h;cases h with
   |cons r t =>
    obtain⟨m',h1,h2⟩:=G t;exact⟨_,h1.cons _,.cons r h2⟩
  |swap x y l =>
   intro m h;cases h with
   |cons r t =>
    cases t with
    |cons B z=>exact⟨_,kT _ _ _,.cons B (.cons r z)⟩
  |trans _ _ j d =>
   intro m h;obtain⟨N,a1,L⟩:=j h;obtain⟨D,a2,J⟩:=d L;exact⟨D,a2.trans a1,J⟩
 intro m h;exact gen p.symm h
theorem few_aux{R:α->β->Prop}{k0:β}{l:List α}{m:List β}(hp:bc R l m)(h0:∀a∈l,R a k0)(inj:∀a b b',R a b->R a b'->b=b')(nd:m.Nodup):l.length<=1:=by
 cases hp with
 |nil=>exact bN _
 |cons j t1 =>
  cases t1 with
  |nil=>exact am _
  |cons d D =>
   have B:=inj _ _ _ (h0 _ aj) j;have z:=inj _ _ _ (h0 _ (ak _ aj)) d
   have:=(bA.mp nd).1
   exact absurd (by rw[<- B,z];exact aj) this
theorem bXr{P:Int×ad->Prop}:∀e∈(#[]).toList,P e:=λe he=>absurd he (by simp)
def tupKd(prog:aA)(w:aO):SetKd prog w (List Str) where
 pk:=false
 is:=TK prog w
 I:=λh a es ep t=>SetAt h a es ep t/\ElT prog w h es.toList/\bX3 prog w h es.toList t
 inj:=λa b=>a.inj b
 obj:=λx=>x.1.obj
 fits:=λx=>x.1.inv.fits
 few:=λ_ {h a es ep t ks} x hp nd hpl=>by
  have q:=few_aux hp (x.2.2 hpl) (λ_ _ _ r1 r2=>r1.inj r2) nd;simpa using q
 fresh:=λho=>⟨⟨ho,fresh_ok _ _ _⟩,bXr,λ_=>bXr⟩
 keepIs:=λx kp=>x.keep kp
 keepI:=λx e kp=>⟨⟨by rw[e];exact x.1.obj,x.1.inv⟩,λe he=>by
  obtain⟨k,q1,q2⟩:=x.2.1 e he;exact⟨k,q1.keep kp,q2⟩,λhp e he=>(x.2.2 hp e he).keep kp⟩
 add:=λ{A E s a es ep t k x Q} hu hI hx hn h=>by
  obtain⟨S,hel,hpl⟩:=hI;refine fQa S hu hel hpl hx hn λh' tk es' ep' t' added h1 h2 h3 h4 h5 h6=>?_;have kp:=aXx S.obj h2;refine h h' tk es' ep' t' added ⟨h1,?_,λhp e he=>(h3 hp e he).keep kp⟩ h2 h4 h5 ?_
  ·intro e he;rcases h6 with⟨_,rfl,_⟩|⟨_,hp,_⟩
   ·obtain⟨k,q1,q2⟩:=hel e he;exact⟨k,q1.keep kp,q2⟩
   ·rcases aw.mp (hp.mem_iff.mp he) with q|q
    ·rw[q];exact⟨k,hx.keep kp,rfl⟩
    ·obtain⟨k,q1,q2⟩:=hel e q;exact⟨k,q1.keep kp,q2⟩
  ·rcases h6 with q|⟨q1,q2,q3⟩
   ·exact .inl q
   ·exact .inr ⟨q1,⟨_,q2⟩,q3⟩
theorem cQz(t:aR)(n:Nat):(t.orStandIn n).led=t.led:=by unfold SetTable.orStandIn;split <;> rfl
theorem addS{κ:Type}[DecidableEq κ](kn:k7 prog w κ)(sc:∀{k:κ}{x:ad},kn.is k x=true->x.scannable=true){A:aW}{E:ad->ai->Prop}{s:ai}{a:Addr}{es:Array (Int×ad)}{ep:Nat}{t:aR}{k:κ}{x:ad}{Q:Bool->ai->Prop}(ho:s.heap.get? a=some (setOb es ep t))(hf:t.fits es.size=true)(hel:ElemsOf kn es.toList)
    (hpl:ji x=false->t.plain=true->es=#[]) (hx:kn.is k x=true) (hn:es.size+1<=300)
    (h:∀ h' es' ep' t' added,h'.get? a=some (setOb es' ep' t') -> t'.fits es'.size=true -> ElemsOf kn es'.toList -> (ji x=false -> t'.plain=true -> es'=#[]) -> dZ a s.heap h' -> (t'.led=t.led /\ (JT t -> JT t')) ->
      ((added=false/\es'=es/\∃e∈es.toList,kn.is k e.2=true)\/(added=true/\es'.toList.Perm ((kn.hash k,x)::es.toList)/\¬ ∃e∈es.toList,kn.is k e.2=true))->Q added {s with heap:=h'}) :
    aD (aE prog w) A (kl a x (kn.hash k)) Q E s:=by
  have hb:es.size<scanBound:=by unfold scanBound; lia
  refine bF (aa (dJ ho rfl hf ?_));dsimp only;rw [byScan_of (sc hx) hb hel];simp only [↓reduceIte];refine aa ?_;refine aa (en ?_);refine aa (wpAny_setScan_of hx ho rfl hf hel ?_);cases hr:List.findIdx? (λe=>kn.is k e.2) es.toList with
  |some j =>
    obtain⟨hj,hpj,_⟩:=List.findIdx?_eq_some_iff_getElem.mp hr;refine ag (ag ?_);exact h s.heap es ep t false ho hf hel hpl (lv a s.heap) ⟨rfl,id⟩ (.inl ⟨rfl,rfl,es.toList[j],db hj,hpj⟩)
  |none =>
    have hno:¬ ∃e∈es.toList,kn.is k e.2=true:=by
      rintro⟨e,he,Z⟩;have:=List.findIdx?_eq_none_iff.mp hr e he;rw [Z] at this; exact Bool.noConfusion this
    have hgw:∀(b:Bool) {s1:ai}{Q':Unit->ai->Prop},Q' () s1->aD (aE prog w) A (match b with|true=>rule "set.scan.the-table-gave-way"|false=>pure ()) Q' E s1 :=
      λb s1 Q' hq =>by cases b <;> first|exact ag hq|exact en hq
    have d:=layNew_perm t es (kn.hash k) x;have B:=layNew_fits t es (kn.hash k) x;have hJ:JT t->JT (layNew t es (kn.hash k) x).2.1:=λz=>gQ8 z es (kn.hash k) x;have G:(layNew t es (kn.hash k) x).2.1.led=t.led:=by
      unfold layNew
      split
      · exact cQz _ _
      · rfl
    generalize hL:layNew t es (kn.hash k) x=L at d B G hJ ⊢;obtain⟨es1,t1,J,gave⟩:=L;rw [ia] at d;have D :=d.trans (jv _ _);have Y :=(hel.push hx (sc hx)).perm d;have hsz1:es1.size=es.size+1:=by
      have:=D.length_eq;simpa using this
    have hz1:es1.size<=sizeLine:=by rw [hsz1,aZ]; lia
    refine aa (hgw _ ?_)
    have rest:∀ t2:aR,t2.fits es1.size=true -> (ji x=false -> t2.plain=false) -> (t2.led=t.led /\ (JT t -> JT t2)) -> aD (aE prog w) A (do
        storeSet a es1 t2
        if (!J&&t2.tooFull)=true then do
            (match (iQ t2 es1 (dj es1.size)).2.2 with|true =>rule "set.scan.the-table-gave-way"|false =>pure ())
            storeSet a (iQ t2 es1 (dj es1.size)).1 (iQ t2 es1 (dj es1.size)).2.1
            pure (some true)
          else pure (some true)) (λr s'=>aD (aE prog w) A (match r with|some added=>pure added|none=>setAddHashedIn a x (kn.hash k) 99999) Q E s') E s:=by
      intro t2 q1 q2 q3;refine aa (ie ho rfl ?_ hz1);have ho1:(s.heap.update a (dX es1 t2)).get? a=some (setOb es1 (ep+1) t2):=by
        have:=cF (dX es1 t2) ho (by rw [iF _ _ rfl]; rfl)
        rw [iF _ _ rfl] at this; exact this
      have U:=bV s.heap a (dX es1 t2)
      split
      · have Z:=relayAll_perm t2 es1 (dj es1.size)
        have hfr:=relayAll_fits t2 es1 (dj es1.size);have hJ2:=gQ9 t2 es1 (dj es1.size);have O:(iQ t2 es1 (dj es1.size)).2.1.led=t2.led/\(ji x=false->(iQ t2 es1 (dj es1.size)).2.1.plain=false):=by
          unfold iQ
          split
          · rename_i t' order hq
            have : t'.led=t2.led/\t'.plain=t2.plain:=by
              unfold relaid laid at hq;cases hc:layClean (sizeAbove (dj es1.size)-1) (Array.map (·.1) es1) with
              |none =>rw [hc] at hq; cases hq
              |some ow =>rw [hc] at hq; cases hq; exact⟨rfl,rfl⟩
            dsimp only
            split
            · exact⟨this.1,λz =>this.2.trans (q2 z)⟩
            · exact⟨rfl,λ_ =>rfl⟩
          · exact⟨rfl,λ_ =>rfl⟩
        generalize hRl:iQ t2 es1 (dj es1.size)=Rl at Z hfr O hJ2 ⊢;obtain⟨N,t3,gave2⟩:=Rl;have hsz2:N.size=es1.size:=by
          have:=Z.length_eq;simpa using this
        refine aa (hgw _ ?_);refine aa (ie ho1 rfl ?_ (by rw [hsz2]; exact hz1))
        have ho2:((s.heap.update a (dX es1 t2)).update a (dX N t3)).get? a=some (setOb N (ep+1+1) t3):=by
          have:=cF (dX N t3) ho1 (by rw [iF _ _ rfl]; rfl)
          rw [iF _ _ rfl] at this; exact this
        refine ag (ag ?_);exact h _ N _ t3 true ho2 hfr (Y.perm Z) (λy z =>by rw [O.2 y] at z; cases z) (U.trans (bV _ a _)) ⟨O.1.trans q3.1,λ_ =>hJ2⟩ (.inr ⟨rfl,Z.trans D,hno⟩)
      · refine ag (ag ?_)
        exact h _ es1 _ t2 true ho1 q1 Y (λy z =>by rw [q2 y] at z; cases z) U q3 (.inr ⟨rfl,D,hno⟩)
    split
    · refine aa ?_
      rw [hashByValue_scannable 8 (sc hx)];refine ag ?_;cases hk:ji x with
      |true =>
        simp only [↓reduceIte];exact rest _ B (λz =>by rw [hk] at z; cases z) ⟨G,hJ⟩
      |false =>
        simp only [aJ, ↓reduceIte];exact rest _ (aR.fits_plain_off B) (λ_ =>rfl) ⟨G,hJ⟩
    · rename_i hnp
      refine aa (ag ?_);simp only [↓reduceIte];exact rest t1 B (λ_ =>fc.mpr hnp) ⟨G,hJ⟩
end
section
variable{prog:aA}{w:aO}
def gQa{κ:Type}[DecidableEq κ](prog:aA)(w:aO)(kn:k7 prog w κ)(sc:∀{k:κ}{x:ad},kn.is k x=true->x.scannable=true)(pk:Bool)(hkp:∀{k:κ}{x:ad},kn.is k x=true->pk=false->ji x=false)(hpk:∀{k:κ}{x:ad},kn.is k x=true->ji x=false->pk=false):SetKd prog w κ where
 pk:=pk
 is:=λ_ k v=>kn.is k v=true
 I:=λh a es ep t=>h.get? a=some (setOb es ep t)/\t.fits es.size=true/\ElemsOf kn es.toList/\(pk=false->t.plain=true->es=#[])/\JT t
 inj:=λa b=>kn.inj _ _ _ a b
 obj:=λx=>x.1
 fits:=λx=>x.2.1
 few:=λz _ _ _ _ _ _ x _ _ hp=>by rw[x.2.2.2.1 z hp];exact bN _
 fresh:=λho=>⟨ho,rfl,bXr,λ_ _=>rfl,eQk _⟩
 keepIs:=λx _=>x
 keepI:=λx e _=>⟨by rw[e];exact x.1,x.2⟩
 add:=λ{A E s a es ep t k x Q} hu hI hx hn h=>by
  obtain⟨ho,hf,hel,hpl,hJ⟩:=hI;unfold setAdd;refine bF (aa (kn.pyHash hx ?_));exact addS kn sc (s:={ s with toks:=s.toks + 1 }) ho hf hel (λz=>hpl (hpk hx z)) hx hn λh' es' ep' t' added h1 h2 h3 h4 h5 h6 h7=>h h' _ es' ep' t' added ⟨h1,h2,h3,λz=>h4 (hkp hx z),h6.2 hJ⟩ h5 h6.1 (d4 _) (by
   rcases h7 with q|⟨q1,q2,q3⟩
   ·exact .inl q
   ·exact .inr ⟨q1,⟨_,q2⟩,q3⟩)
abbrev strKd(prog:aA)(w:aO):SetKd prog w Str:=gQa prog w (eG prog w) (λh=>by obtain⟨t,rfl⟩:=fu h;rfl) false (λh _=>by obtain⟨t,rfl⟩:=fu h;rfl) λ_ _=>rfl
structure Mem{κ:Type}(D:SetKd prog w κ)(h:bd)(a:Addr)(done:List κ)(led:Bool)(ks:List κ):Prop where
 ex:∃es ep t,D.I h a es ep t/\t.led=led/\bc (λ(e:Int×ad) k=>D.is h k e.2) es.toList ks
 nd:ks.Nodup
 mem:∀k,k∈ks↔k∈done
theorem Mem.keep{D:SetKd prog w κ}{done:List κ}{led:Bool}{ks:List κ}(M:Mem D h a done led ks)(e:h'.get? a=h.get? a)(kp:TupKeep h h'):Mem D h' a done led ks:=by
 obtain⟨es,j,t,h1,h2,d⟩:=M.ex;exact⟨⟨es,j,t,D.keepI h1 e kp,h2,L2.Paired.mapP d λ_ _ q=>D.keepIs q kp⟩,M.nd,M.mem⟩
theorem Mem.size{D:SetKd prog w κ}{done:List κ}{led:Bool}{ks:List κ}(M:Mem D h a done led ks):ks.length<=done.length :=
 M.nd.length_le_of_subset λk d=>(M.mem k).mp d
theorem addM{κ:Type}[DecidableEq κ](D:SetKd prog w κ){A:aW}{E:ad->ai->Prop}{s:ai}{a:Addr}{done:List κ}{led:Bool}{ks:List κ}{k:κ}{x:ad}{Q:Bool->ai->Prop}(hu:A.units<bR)(M:Mem D s.heap a done led ks)(hx:D.is s.heap k x)(hn:done.length+1<=300)
  (h:∀h' tk ks',Mem D h' a (done++[k]) led ks'->dZ a s.heap h'->TupKeep s.heap h'->s.toks<=tk->Q (decide (k∉ks)) {s with heap:=h',toks:=tk}) :
  aD (aE prog w) A (setAdd a x) Q E s:=by
 have hsz:=M.size;obtain⟨es,ep,t,h1,h2,L⟩:=M.ex;have hl:es.size=ks.length:=by have:=bW L;simpa using this
 refine D.add hu h1 hx (by lia) λh' tk B G t' added q1 Y q3 q4 q5=>?_
 have kp:=aXx (D.obj h1) Y;have j:=L2.Paired.mapP L λ_ _ q=>D.keepIs q kp;have isin:(∃e∈es.toList,D.is s.heap k e.2)↔k∈ks:=by
  constructor
  ·rintro⟨e,he,q⟩;obtain⟨J,Z,q'⟩:=paired_mem L e he;rw[D.inj q q'];exact Z
  ·intro d;obtain⟨e,he,q⟩:=paired_mem' L k d;exact⟨e,he,q⟩
 rcases q5 with⟨U,O,N⟩|⟨U,⟨hh,O⟩,N⟩
 ·have d:=isin.mp N;have q:=h h' tk ks ⟨⟨B,G,t',q1,q3.trans h2,by rw[O];exact j⟩,M.nd,λJ=>by
   rw[M.mem J,a6,aF];exact⟨.inl,λz=>z.elim id λz=>by rw[z];exact(M.mem k).mp d⟩⟩ Y kp q4
  rw[decide_eq_false (λz=>z d)] at q;rw[U];exact q
 ·have d:k∉ks:=λz=>N (isin.mpr z);obtain⟨ks',p1,p2⟩:=paired_perm O (.cons (D.keepIs hx kp) j);have q:=h h' tk ks' ⟨⟨B,G,t',q1,q3.trans h2,p2⟩,p1.nodup_iff.mpr (bA.mpr ⟨d,M.nd⟩),λJ=>by
   rw[p1.mem_iff,aw,a6,aF,M.mem J];exact⟨λz=>z.symm,λz=>z.symm⟩⟩ Y kp q4
  rw[decide_eq_true d] at q;rw[U];exact q
theorem eQl{κ:Type}[DecidableEq κ](D:SetKd prog w κ){A:aW}{R:Result->ai->Prop}{I S l:Addr}{items:Array ad}{ks:List κ}{led:Bool}(hh:A.in1.handled=none)(hu:A.in1.units<bR)(hne:l≠I)(hSI:S≠I)(hSl:S≠l)(hn:items.size+1<=300) :
  ∀(j i:Nat) (s:ai),items.size-i=j->i<=items.size->s.heap.IsListIter I l i->s.heap.IsList l items->bc (λv k=>D.is s.heap k v) items.toList ks->(∃ms,Mem D s.heap S (ks.take i) led ms) ->
   (∀h' tk ms,Mem D h' S ks led ms->TupKeep s.heap h'->(∀b o,b≠S->b≠I->s.heap.get? b=some o->h'.get? b=some o)->R (.ok (.ret .none)) {s with heap:=h',toks:=tk}) ->
   fv (aE prog w) A (.builtin "set.update.loop" ⟨[.ref S,.ref I],[]⟩) R s:=by
 have U:∀ {h h':bd} {i:Nat},h.IsListIter I l i->(∀ b o,b≠I->h.get? b=some o->h'.get? b=some o)->TupKeep h h':=λst k b o e c=>k b o (by
  rintro rfl;obtain⟨o',e',c',_⟩:=st;rw[e] at e';cases e';rw[c] at c';injection c' with c''
  exact absurd c'' (by decide)) e
 intro j
 induction j with
 |zero =>
  intro i s hj hi d hl J hM hR;have hin:i=items.size:=by lia
  subst hin;refine b9 dh ?_;rw[bH cf _];refine aa (wpAny_pyNext_list_end hh d hl (by simp) λh' eb=>?_)
  have kp:=U d λb o hb e=>eb b o hb e;obtain⟨ms,M⟩:=hM;have hlen:ks.length=items.size:=by have:=bW J;simpa using this.symm
  rw[cA (by lia)] at M
  obtain⟨es,ep,t,h1,_⟩:=id M.ex;have hS:=D.obj h1;exact ag (hR h' s.toks ms (M.keep (by rw[hS];exact eb S _ hSI hS) kp) kp λb o _ hb e=>eb b o hb e)
 |succ j ih =>
  intro i s hj hi d hl J hM hR;have L:i<items.size:=by lia
  refine b9 dh ?_;rw[bH cf _];refine aa (wpAny_pyNext_list_item d hl (x:=items[i]) (by simp[L]) λh1 st1 z=>?_)
  have B:=U d λb o hb e=>(z.2 b hb).trans e;obtain⟨ms,M⟩:=hM;obtain⟨es,ep,t,q1,_⟩:=id M.ex;have hS:=D.obj q1;have M1:=M.keep (by rw[z.2 S hSI]) B
  have hlen:ks.length=items.size:=by have:=bW J;simpa using this.symm
  have Y:ks[i]?=some ks[i]:=ah (by lia)
  have hx:D.is s.heap ks[i] items[i]:=by
   have gen:∀{l:List ad}{m:List κ},bc (λv k=>D.is s.heap k v) l m->∀(n:Nat) (v:ad) (k:κ),l[n]?=some v->m[n]?=some k->D.is s.heap k v:=by
    intro l m J
    induction J with
    |nil=>intro n v k h;simp at h
    |cons r _ ih =>
     intro n v k h1 h2;cases n with
     |zero=>simp at h1 h2;subst h1;subst h2;exact r
     |succ n=>exact ih n v k (by simpa using h1) (by simpa using h2)
   exact gen J i _ _ (by simp[L]) Y
  refine aa (bF ?_);refine addM D hu M1 (D.keepIs hx B) (by rw[a7];lia) λh2 tk ms' M2 G O htk=>?_
  have hl2:h2.IsList l items:=by
   obtain⟨o,e,r⟩:=hl;exact⟨o,(G.2 l (bX hSl)).trans ((z.2 l hne).trans e),r⟩
  have st2:h2.IsListIter I l (i+1):=by
   obtain⟨o,e,r⟩:=st1;exact⟨o,(G.2 I (bX hSI)).trans e,r⟩
  refine ag ⟨dl cf _,ih (i+1) _ (by lia) L st2 hl2 (L2.Paired.mapP J λ_ _ q=>D.keepIs q (B.trans O)) ⟨ms',?_⟩ λh' tk' N a1 a2 a3=>?_⟩
  ·have et:ks.take (i+1)=ks.take i++[ks[i]]:=by rw[cM,Y];rfl
   rw[et];exact M2
  ·exact hR h' tk' N a1 ((B.trans O).trans a2) λb o hb1 Z e=>a3 b o hb1 Z ((G.2 b hb1).trans ((z.2 b Z).trans e))
abbrev ledOf(w:aO):Bool:=!(w.params.followText "set-order")
theorem cX7(a:ad){Q1:ad->ai->Prop}
  (h:Q1 (.ref s.heap.objs.size) {s with heap:=s.heap.push (setOb #[] 0 (.fresh 0 0 (ledOf w)))}) :
  fv (aE prog w) A (.call (.builtin "set.__new__") ⟨[.type "set",a],[]⟩) (wants Q1 E) s:=by
 refine gN ?_;refine aa (jJ (PySem.F.newCall_set_1 a) (ag ⟨dl kL _,b9 PySem.F.entry_set_new ?_⟩));rw[bH kL _];have j:=sub_set_self;obtain⟨B,g,d,z,os⟩:=s;wp_walk
 refine dD (ag ?_);simp only[newObj];refine aa (wpAny_alloc (ag ?_));exact ag h
end
section
variable{prog:aA}{w:aO}
theorem call_setK{κ:Type}[DecidableEq κ](D:SetKd prog w κ){A:aW}{E:ad->ai->Prop}{s:ai}{l:Addr}{items:Array ad}{ks:List κ}{Q:ad->ai->Prop}
  (hh:A.handled=none) (hu:A.units+8<bR) (hl:s.heap.IsList l items) (hi:bc (λv k=>D.is s.heap k v) items.toList ks) (hb:items.size+1<=300)
  (h:∀ (h':bd) (tk:Nat) ms,Mem D h' s.heap.objs.size ks (ledOf w) ms->TupKeep s.heap h' ->
   (∀b o,b<s.heap.objs.size->s.heap.get? b=some o->h'.get? b=some o)->Q (.ref s.heap.objs.size) {s with heap:=h',toks:=tk}) :
  aD (aE prog w) A (call (.type "set") [.ref l]) Q E s:=by
 obtain⟨c,tl,hmro⟩:=bG.mro;have hmade:=bG.made;have hsub:=bG.sub;refine wpAny_call (gN ?_);show aD _ _ (callAny (.type "set") _) _ _ _;refine ag ⟨Code.quiet_builtin _ (by decide +kernel),b9 j1 ?_⟩
 rw[Around.under_plain (weight_type_call_type "set" [.ref l] []) rfl];have h1:=bG.notType;have h2:=bG.canCreate;have hct:=km (.ref l)
 repeat (any_goals (first|assumption|wp_step))
 refine gp (cX7 (.ref l) (E:=E) (Q1:=λobj s1=>obj=.ref s.heap.objs.size/\s1={s with heap:=s.heap.push (setOb #[] 0 (.fresh 0 0 (ledOf w)))}) ⟨rfl,rfl⟩) λr s1 hr=>?_
 cases r with
 |error e=>exact hr
 |ok fl =>
  cases fl with
  |ret obj =>
   obtain⟨rfl,rfl⟩:=hr;have hS:(s.heap.push (setOb #[] 0 (.fresh 0 0 (ledOf w)))).get? s.heap.objs.size=some (setOb #[] 0 (.fresh 0 0 (ledOf w))):=au _ rfl;have hT:ai.TypeIs {s with heap:=s.heap.push (setOb #[] 0 (.fresh 0 0 (ledOf w)))} (.ref s.heap.objs.size) "set":=⟨_,hS,rfl⟩
   have hli:=bG.init.lookup;have hbi:=bG.init.bind (.ref s.heap.objs.size)
   repeat (any_goals (first|assumption|wp_step))
   refine gp (codeAny_call_builtin (R:=wants (λr s2=>r=.none/\∃ h' tk ms,s2={ s with heap:=h',toks:=tk }/\Mem D h' s.heap.objs.size ks (ledOf w) ms/\TupKeep s.heap h' /\
     (∀b o,b<s.heap.objs.size->s.heap.get? b=some o->h'.get? b=some o)) E) bG.init.plain ko (check_set_init_1 hT ?_)) λr2 s2 B=>?_
   ·obtain⟨ol,L,hcl,nl,Z⟩:=hl;obtain⟨ocls,j,odata,d⟩:=ol;simp only at hcl Z;subst hcl;subst Z;have J:(s.heap.push (setOb #[] 0 (.fresh 0 0 (ledOf w)))).get? l=some {cls:=.type "list",dict:=j,data:=.seq items nl,slots:=d}:=af _ L;have hsls:=PySem.F.sub_list_set;have hslf:=PySem.F.sub_list_frozenset;have hne:(dg "list" ==dg "dict")=false:=by decide
    have U:(s.heap.push (setOb #[] 0 (.fresh 0 0 (ledOf w)))).IsList l items:=⟨_,J,rfl,nl,rfl⟩;unfold cX.«set.__init__» noKeywords iZ;generalize hPI:iW=PI;unfold setOb at *
    wp_walk
    subst hPI;refine f7 U ?_;refine aa (wpAny_runValue ?_);have O:l<s.heap.objs.size:=aC L;have hh3:A.in1.in1.in1.handled=none:=by simp[hh]
    have hu3:A.in1.in1.in1.units<bR:=by show A.units+1+1+1<bR;lia
    have N:l≠(s.heap.push {cls:=.type "set",dict:=none,data:=.set #[] 0 (.fresh 0 0 (ledOf w))}).objs.size:=by
     rw[cz];exact aN (cK O)
    have hSI:s.heap.objs.size≠(s.heap.push {cls:=.type "set",dict:=none,data:=.set #[] 0 (.fresh 0 0 (ledOf w))}).objs.size:=by
     rw[cz];exact aN (fA _)
    have kp:TupKeep s.heap ((s.heap.push {cls:=.type "set",dict:=none,data:=.set #[] 0 (.fresh 0 0 (ledOf w))}).push {cls:=.type "list_iterator",data:=.fields #[.ref l,.int 0 0]}):=λb o e _=>af _ (af _ e)
    have Y:((s.heap.push {cls:=.type "set",dict:=none,data:=.set #[] 0 (.fresh 0 0 (ledOf w))}).push {cls:=.type "list_iterator",data:=.fields #[.ref l,.int 0 0]}).get? s.heap.objs.size
       =some (setOb #[] 0 (.fresh 0 0 (ledOf w))):=af _ hS
    refine eQl D hh3 hu3 N hSI (bX (aN O)) hb (items.size-0) 0 _ (by lia) (bN _) ⟨_,au _ rfl,rfl,rfl⟩ (U.push _) (L2.Paired.mapP hi λ_ _ q=>D.keepIs q kp)
     ⟨[],⟨⟨#[],0,.fresh 0 0 (ledOf w),D.fresh Y,rfl,.nil⟩,dM,λk=>by simp⟩⟩ ?hR
    case hR =>
     intro h' tk' ms hM z G;show aD _ _ _ _ _ _;refine ag ?_;show aD _ _ (ret bJ) _ _ _;refine ag ⟨rfl,h',tk',ms,rfl,hM,kp.trans z,λb o hb e=>?_⟩;exact G b o (aN hb) (by rw[cz];exact aN (cK hb)) (af _ (af _ e))
   ·cases r2 with
    |error e=>exact B
    |ok fl2 =>
     cases fl2 with
     |ret r =>
      obtain⟨rfl,h',tk,ms,rfl,hM,z,G⟩:=B
      repeat (any_goals (first|assumption|wp_step))
      exact h _ _ _ hM z G
     |_=>exact B.elim
  |_=>exact hr.elim
end
section
variable{prog:aA}{w:aO}
theorem dZ9{κ:Type}[DecidableEq κ](D:SetKd prog w κ){A:aW}{R:Result->ai->Prop}{I S l:Addr}{items:Array ad}{ks:List κ}{led:Bool}(hh:A.in1.handled=none)(hu:A.in1.units<bR)(hne:l≠I)(hSI:S≠I)(hSl:S≠l)(hn:items.size+1<=300) :
  ∀(j i:Nat) (s:ai),items.size-i=j->i<=items.size->s.heap.IsTupleIter I l i->s.heap.IsTuple l items->bc (λv k=>D.is s.heap k v) items.toList ks->(∃ms,Mem D s.heap S (ks.take i) led ms) ->
   (∀h' tk ms,Mem D h' S ks led ms->TupKeep s.heap h'->(∀b o,b≠S->b≠I->s.heap.get? b=some o->h'.get? b=some o)->R (.ok (.ret .none)) {s with heap:=h',toks:=tk}) ->
   fv (aE prog w) A (.builtin "set.update.loop" ⟨[.ref S,.ref I],[]⟩) R s:=by
 have U:∀ {h h':bd} {i:Nat},h.IsTupleIter I l i->(∀ b o,b≠I->h.get? b=some o->h'.get? b=some o)->TupKeep h h':=λst k b o e c=>k b o (by
  rintro rfl;obtain⟨o',e',c',_⟩:=st;rw[e] at e';cases e';rw[c] at c';injection c' with c''
  exact absurd c'' (by decide)) e
 intro j
 induction j with
 |zero =>
  intro i s hj hi d hl J hM hR;have hin:i=items.size:=by lia
  subst hin;refine b9 dh ?_;rw[bH cf _];refine aa (wpAny_pyNext_tuple_end hh d hl (by simp) λh' eb=>?_)
  have kp:=U d λb o hb e=>eb b o hb e;obtain⟨ms,M⟩:=hM;have hlen:ks.length=items.size:=by have:=bW J;simpa using this.symm
  rw[cA (by lia)] at M
  obtain⟨es,ep,t,h1,_⟩:=id M.ex;have hS:=D.obj h1;exact ag (hR h' s.toks ms (M.keep (by rw[hS];exact eb S _ hSI hS) kp) kp λb o _ hb e=>eb b o hb e)
 |succ j ih =>
  intro i s hj hi d hl J hM hR;have L:i<items.size:=by lia
  refine b9 dh ?_;rw[bH cf _];refine aa (wpAny_pyNext_tuple_item d hl (x:=items[i]) (by simp[L]) λh1 st1 z=>?_)
  have B:=U d λb o hb e=>(z.2 b hb).trans e;obtain⟨ms,M⟩:=hM;obtain⟨es,ep,t,q1,_⟩:=id M.ex;have hS:=D.obj q1;have M1:=M.keep (by rw[z.2 S hSI]) B
  have hlen:ks.length=items.size:=by have:=bW J;simpa using this.symm
  have Y:ks[i]?=some ks[i]:=ah (by lia)
  have hx:D.is s.heap ks[i] items[i]:=by
   have gen:∀{l:List ad}{m:List κ},bc (λv k=>D.is s.heap k v) l m->∀(n:Nat) (v:ad) (k:κ),l[n]?=some v->m[n]?=some k->D.is s.heap k v:=by
    intro l m J
    induction J with
    |nil=>intro n v k h;simp at h
    |cons r _ ih =>
     intro n v k h1 h2;cases n with
     |zero=>simp at h1 h2;subst h1;subst h2;exact r
     |succ n=>exact ih n v k (by simpa using h1) (by simpa using h2)
   exact gen J i _ _ (by simp[L]) Y
  refine aa (bF ?_);refine addM D hu M1 (D.keepIs hx B) (by rw[a7];lia) λh2 tk ms' M2 G O htk=>?_
  have hl2:h2.IsTuple l items:=by
   obtain⟨o,e,r⟩:=hl;exact⟨o,(G.2 l (bX hSl)).trans ((z.2 l hne).trans e),r⟩
  have st2:h2.IsTupleIter I l (i+1):=by
   obtain⟨o,e,r⟩:=st1;exact⟨o,(G.2 I (bX hSI)).trans e,r⟩
  refine ag ⟨dl cf _,ih (i+1) _ (by lia) L st2 hl2 (L2.Paired.mapP J λ_ _ q=>D.keepIs q (B.trans O)) ⟨ms',?_⟩ λh' tk' N a1 a2 a3=>?_⟩
  ·have et:ks.take (i+1)=ks.take i++[ks[i]]:=by rw[cM,Y];rfl
   rw[et];exact M2
  ·exact hR h' tk' N a1 ((B.trans O).trans a2) λb o hb1 Z e=>a3 b o hb1 Z ((G.2 b hb1).trans ((z.2 b Z).trans e))
theorem call_setT{κ:Type}[DecidableEq κ](D:SetKd prog w κ){A:aW}{E:ad->ai->Prop}{s:ai}{l:Addr}{items:Array ad}{ks:List κ}{Q:ad->ai->Prop}
  (hh:A.handled=none) (hu:A.units+8<bR) (hl:s.heap.IsTuple l items) (hi:bc (λv k=>D.is s.heap k v) items.toList ks) (hb:items.size+1<=300)
  (h:∀ (h':bd) (tk:Nat) ms,Mem D h' s.heap.objs.size ks (ledOf w) ms->TupKeep s.heap h' ->
   (∀b o,b<s.heap.objs.size->s.heap.get? b=some o->h'.get? b=some o)->Q (.ref s.heap.objs.size) {s with heap:=h',toks:=tk}) :
  aD (aE prog w) A (call (.type "set") [.ref l]) Q E s:=by
 obtain⟨c,tl,hmro⟩:=bG.mro;have hmade:=bG.made;have hsub:=bG.sub;refine wpAny_call (gN ?_);show aD _ _ (callAny (.type "set") _) _ _ _;refine ag ⟨Code.quiet_builtin _ (by decide +kernel),b9 j1 ?_⟩
 rw[Around.under_plain (weight_type_call_type "set" [.ref l] []) rfl];have h1:=bG.notType;have h2:=bG.canCreate;have hct:=km (.ref l)
 repeat (any_goals (first|assumption|wp_step))
 refine gp (cX7 (.ref l) (E:=E) (Q1:=λobj s1=>obj=.ref s.heap.objs.size/\s1={s with heap:=s.heap.push (setOb #[] 0 (.fresh 0 0 (ledOf w)))}) ⟨rfl,rfl⟩) λr s1 hr=>?_
 cases r with
 |error e=>exact hr
 |ok fl =>
  cases fl with
  |ret obj =>
   obtain⟨rfl,rfl⟩:=hr;have hS:(s.heap.push (setOb #[] 0 (.fresh 0 0 (ledOf w)))).get? s.heap.objs.size=some (setOb #[] 0 (.fresh 0 0 (ledOf w))):=au _ rfl;have hT:ai.TypeIs {s with heap:=s.heap.push (setOb #[] 0 (.fresh 0 0 (ledOf w)))} (.ref s.heap.objs.size) "set":=⟨_,hS,rfl⟩
   have hli:=bG.init.lookup;have hbi:=bG.init.bind (.ref s.heap.objs.size)
   repeat (any_goals (first|assumption|wp_step))
   refine gp (codeAny_call_builtin (R:=wants (λr s2=>r=.none/\∃ h' tk ms,s2={ s with heap:=h',toks:=tk }/\Mem D h' s.heap.objs.size ks (ledOf w) ms/\TupKeep s.heap h' /\
     (∀b o,b<s.heap.objs.size->s.heap.get? b=some o->h'.get? b=some o)) E) bG.init.plain ko (check_set_init_1 hT ?_)) λr2 s2 B=>?_
   ·obtain⟨ol,L,hcl,nl,Z⟩:=hl;obtain⟨ocls,j,odata,d⟩:=ol;simp only at hcl Z;subst hcl;subst Z;have J:(s.heap.push (setOb #[] 0 (.fresh 0 0 (ledOf w)))).get? l=some {cls:=.type "tuple",dict:=j,data:=.seq items nl,slots:=d}:=af _ L;have hsls:=PySem.F.sub_tuple_set;have hslf:=PySem.F.sub_tuple_frozenset;have hne:(dg "tuple" ==dg "dict")=false:=by decide
    have U:(s.heap.push (setOb #[] 0 (.fresh 0 0 (ledOf w)))).IsTuple l items:=⟨_,J,rfl,nl,rfl⟩;unfold cX.«set.__init__» noKeywords iZ;generalize hPI:iW=PI;unfold setOb at *
    wp_walk
    subst hPI;refine fN U ?_;refine aa (wpAny_runValue ?_);have O:l<s.heap.objs.size:=aC L;have hh3:A.in1.in1.in1.handled=none:=by simp[hh]
    have hu3:A.in1.in1.in1.units<bR:=by show A.units+1+1+1<bR;lia
    have N:l≠(s.heap.push {cls:=.type "set",dict:=none,data:=.set #[] 0 (.fresh 0 0 (ledOf w))}).objs.size:=by
     rw[cz];exact aN (cK O)
    have hSI:s.heap.objs.size≠(s.heap.push {cls:=.type "set",dict:=none,data:=.set #[] 0 (.fresh 0 0 (ledOf w))}).objs.size:=by
     rw[cz];exact aN (fA _)
    have kp:TupKeep s.heap ((s.heap.push {cls:=.type "set",dict:=none,data:=.set #[] 0 (.fresh 0 0 (ledOf w))}).push {cls:=.type "tuple_iterator",data:=.fields #[.ref l,.int 0 0]}):=λb o e _=>af _ (af _ e)
    have Y:((s.heap.push {cls:=.type "set",dict:=none,data:=.set #[] 0 (.fresh 0 0 (ledOf w))}).push {cls:=.type "tuple_iterator",data:=.fields #[.ref l,.int 0 0]}).get? s.heap.objs.size
       =some (setOb #[] 0 (.fresh 0 0 (ledOf w))):=af _ hS
    refine dZ9 D hh3 hu3 N hSI (bX (aN O)) hb (items.size-0) 0 _ (by lia) (bN _) ⟨_,au _ rfl,rfl,rfl⟩ (U.push _) (L2.Paired.mapP hi λ_ _ q=>D.keepIs q kp)
     ⟨[],⟨⟨#[],0,.fresh 0 0 (ledOf w),D.fresh Y,rfl,.nil⟩,dM,λk=>by simp⟩⟩ ?hR
    case hR =>
     intro h' tk' ms hM z G;show aD _ _ _ _ _ _;refine ag ?_;show aD _ _ (ret bJ) _ _ _;refine ag ⟨rfl,h',tk',ms,rfl,hM,kp.trans z,λb o hb e=>?_⟩;exact G b o (aN hb) (by rw[cz];exact aN (cK hb)) (af _ (af _ e))
   ·cases r2 with
    |error e=>exact B
    |ok fl2 =>
     cases fl2 with
     |ret r =>
      obtain⟨rfl,h',tk,ms,rfl,hM,z,G⟩:=B
      repeat (any_goals (first|assumption|wp_step))
      exact h _ _ _ hM z G
     |_=>exact B.elim
  |_=>exact hr.elim
end
end ST
namespace L2
open PySem PySem.Spec PyProof.Rows
variable{α β:Type}
theorem dZa(p:bc (dB H) xs bs)(r:Vals xs us){i:Nat}{v:ad}(h:us[i]?=some v):∃b,bs[i]?=some b/\v=.bool b:=by
 have hl:=r.length;have hi:i<xs.length:=by
  rcases bU i us.length with z|z
  ·lia
  ·rw[bL z] at h;cases h
 refine hd λG j=>?_;obtain⟨b,e,D⟩:=Paired.get' p (ah hi);refine j ?_;refine hd λG j=>?_;obtain⟨u,eu,B⟩:=r.get (ah hi);refine j ?_;rw[h] at eu;cases eu;have d:=D;rw[d] at B;exact⟨b,e,B⟩
theorem cX8{h h':bd}(hk:∀b x,b∉[h.objs.size]->(h.push o).get? b=some x->h'.get? b=some x):∀b x,h.get? b=some x->h'.get? b=some x:=λb x e =>
 hk b x (λz=>by have:=aF.mp z;subst this;exact cT _ (aC e)) (af _ e)
theorem cJs(bs:List Bool):∀n,n=bs.length->((aI n).all λi=>(bs[i]?).getD true)=bs.all id:=by
 rintro n rfl;rw[i4,ba,ba];refine⟨λh b j=>?_,λh i hi=>?_⟩
 ·obtain⟨i,hi,rfl⟩:=bf j
  have:=h i (aU.mpr hi)
  rwa [ah hi] at this
 ·have d:=aU.mp hi;rw[ah d];exact h _ (db d)
theorem cJt(bs:List Bool):∀n,n=bs.length->((aI n).any λi=>(bs[i]?).getD false)=bs.any id:=by
 rintro n rfl;rw[i4,List.any_eq_true,List.any_eq_true];refine⟨λ⟨i,hi,h⟩=>?_,λ⟨b,j,h⟩=>?_⟩
 ·have d:=aU.mp hi;rw[ah d] at h;exact⟨_,db d,h⟩
 ·obtain⟨i,hi,rfl⟩:=bf j;exact⟨i,aU.mpr hi,by rw[ah hi];exact h⟩
section
variable{X:Cx}
theorem dZb(hc:X.calm=true):CallR X (.builtin "all") (λxs H Q=>∃x bs,xs=[x]/\dL X.K dB H x bs/\Q (.bl (bs.all id)) H):=by
 intro pins s σ H xs us Q I r h;obtain⟨x,bs,rfl,⟨a,ys,rfl,G,p⟩,q⟩:=h;obtain⟨u,rfl,rx⟩:=aX4 r;cases rx;refine hd λO j=>?_;obtain⟨d,z,pl,_⟩:=I.list G;refine j ?_;refine hd λO j=>?_;obtain⟨o,J,_⟩:=id pl.isList;refine j ?_;refine PySem.call_all_walk (f7 pl.isList ⟨_,_,_,_,_,_,λi=>(bs[i]?).getD true,rfl,PySem.Walks.list (by have:=I.ok.hd hc;simp[this]) _ a (aN (aC J)) d.toArray,⟨⟨_,au _ rfl,rfl,rfl⟩,pl.isList.push _⟩,λi v s' U Y N B=>?_,λh' D L=>?_⟩)
 ·obtain⟨b,e,rfl⟩:=dZa p z (by simpa using N)
  simp only[e,Option.getD_some] at B;exact cJ B
 ·rw[cJs bs _ (by rw[aq,<- z.length,p.length])]
  exact⟨.bl _,H,I.kept (cX8 L),rfl,q⟩
theorem dZc(hc:X.calm=true):CallR X (.builtin "any") (λxs H Q=>∃x bs,xs=[x]/\dL X.K dB H x bs/\Q (.bl (bs.any id)) H):=by
 intro pins s σ H xs us Q I r h;obtain⟨x,bs,rfl,⟨a,ys,rfl,G,p⟩,q⟩:=h;obtain⟨u,rfl,rx⟩:=aX4 r;cases rx;refine hd λO j=>?_;obtain⟨d,z,pl,_⟩:=I.list G;refine j ?_;refine hd λO j=>?_;obtain⟨o,J,_⟩:=id pl.isList;refine j ?_;refine PySem.call_any_walk (f7 pl.isList ⟨_,_,_,_,_,_,λi=>(bs[i]?).getD false,rfl,PySem.Walks.list (by have:=I.ok.hd hc;simp[this]) _ a (aN (aC J)) d.toArray,⟨⟨_,au _ rfl,rfl,rfl⟩,pl.isList.push _⟩,λi v s' U Y N B=>?_,λh' D L=>?_⟩)
 ·obtain⟨b,e,rfl⟩:=dZa p z (by simpa using N)
  simp only[e,Option.getD_some] at B;exact cJ B
 ·rw[cJt bs _ (by rw[aq,<- z.length,p.length])]
  exact⟨.bl _,H,I.kept (cX8 L),rfl,q⟩
def szO(a:Addr)(n:Nat):HO:=.ext λh=>∃es ep t,h.get? a=some (ST.setOb es ep t)/\t.fits es.size=true/\es.size=n
def SzOk(ds:List α)(n:Nat):Prop:=n<=ds.length/\(n=ds.length↔ds.Nodup)
theorem aJz[DecidableEq α]:∀(ds ms:List α),ms.Nodup->ms⊆ds->ds.length<=ms.length->ds.Nodup
 |[],_,_,_,_=>dM
 |x::xs,ms,nd,sub,le=>by
  have j:x∉xs:=λj=>by
   have:ms⊆xs:=λk B=>by
    rcases aw.mp (sub B) with rfl|z
    ·exact j
    ·exact z
   have:=nd.length_le_of_subset this
   simp only[aG] at le;lia
  refine bA.mpr ⟨j,aJz xs (ms.erase x) (nd.erase x) (λk B=>?_) ?_⟩
  ·have d:=(List.Nodup.mem_erase_iff nd).mp B;exact(aw.mp (sub d.2)).resolve_left d.1
  ·simp only[aG] at le
   have:=List.length_erase (a:=x) (l:=ms)
   split at this <;> lia
theorem fQb[DecidableEq α]{ds ms:List α}(nd:ms.Nodup)(h:∀k,k∈ms↔k∈ds):SzOk ds ms.length:=by
 have sub:=λk j=>(h k).mp j;have le:=nd.length_le_of_subset sub;refine⟨le,λe=>?_,λd=>kG le (d.length_le_of_subset λk j=>(h k).mpr j)⟩;exact aJz ds ms nd sub (by lia)
theorem fQc{K:Fg}(p:bc (dS H) xs k)(r:Vals xs its)(t:gV h b its.toArray):ST.TK P w h k (.ref b):=by
 refine hd λG j=>?_;obtain⟨o,z,B,n,hd⟩:=t;refine j ?_;refine⟨b,rfl,o,its.toArray,n,z,B,hd,?_⟩;have go:∀{xs:List V}{its:List ad}{k:List Str},bc (dS H) xs k->Vals xs its->ItemsAre (eG P w) k its:=by
  intro xs its k p r
  induction p generalizing its with
  |nil=>cases r;first|exact trivial|exact .nil
  |cons e _ d =>
   cases r with
   |cons r t =>
    cases e;obtain⟨D,rfl⟩:=r
    first
     |exact⟨by simp[eG,gC],d t⟩
     |exact .cons (by simp[eG,gC]) (d t)
 exact go p r
theorem gQb{σ:St}(I:Inv X pins σ H s):∀{xs:List V}{us:List ad}{ds:List (List Str)},bc (dT X.K dS H) xs ds->Vals xs us->bc (λv k=>ST.TK P w s.heap k v) us ds
 |_,_,_,.nil,.nil=>.nil
 |_,_,_,.cons p q,.cons r t=>by
  refine .cons ?_ (gQb I q t);obtain⟨b,ys,rfl,D,pp⟩:=p;cases r;refine hd λG z=>?_;obtain⟨B,j,d,_⟩:=I.tuple D;refine z ?_;exact fQc (K:=X.K) pp j d
theorem dZd:∀{xs:List V}{us:List ad}{ds:List Str},bc (dS H) xs ds->Vals xs us->bc (λv k=>(ST.strKd P w).is h k v) us ds
 |_,_,_,.nil,.nil=>.nil
 |_,_,_,.cons p q,.cons r t=>by
  refine .cons ?_ (dZd q t);cases p;obtain⟨d,rfl⟩:=r;exact(λb=>(by simp[eG,gC]:(eG P w).is b (jh b d)=true)) _
theorem eXh{κ:Type}[DecidableEq κ]{pins:List (Addr×Obj)}{σ:St}{H:Hp}{s:ai}{Q:VK}{D:ST.SetKd X.prog X.w κ}{ds:List κ}(I:Inv X pins σ H s)(q:∀p n,H p=none->SzOk ds n->Q (.ref p) (upd H p (szO p n))){h':bd}{tk:Nat}{ms:List κ}{led:Bool}(M:ST.Mem D h' s.heap.objs.size ds led ms)
  (hk:∀b o,b<s.heap.objs.size->s.heap.get? b=some o->h'.get? b=some o):EP X pins σ Q (.ref s.heap.objs.size) {s with heap:=h',toks:=tk}:=by
 refine hd λO d=>?_;obtain⟨es,N,t,j,_,L⟩:=M.ex;refine d ?_;have hl:es.size=ms.length:=by have:=bW L;simpa using this
 refine⟨.ref s.heap.objs.size,_,I.laid (λb o e=>hk b o (aC e) e) (am _) ?_,rfl,q _ _ (I.hok.fresh (am _)) (fQb M.nd M.mem)⟩;refine⟨⟨es,N,t,D.obj j,D.fits j,hl⟩,⟨_,D.obj j⟩,?_⟩;intro h1 h2 J k;refine hd λO d=>?_;obtain⟨B,G,t',g,f,z⟩:=J;refine d ?_;exact⟨B,G,t',k _ g,f,z⟩
theorem cJu(hc:X.calm=true)(hu:X.A.units+8<bR):CallR X (.type "set") (λxs H Q=>∃x ds,xs=[x]/\dT X.K (dT X.K dS) H x ds/\ds.length+1<=300/\∀p n,H p=none->SzOk ds n->Q (.ref p) (upd H p (szO p n))):=by
 intro pins s σ H xs us Q I r h;obtain⟨x,ds,rfl,⟨a,ys,rfl,B,p⟩,D,q⟩:=h;obtain⟨u,rfl,rx⟩:=aX4 r;cases rx;refine hd λL j=>?_;obtain⟨z,d,pl,_⟩:=I.tuple B;refine j ?_;exact ST.call_setT (ST.tupKd X.prog X.w) (I.ok.hd hc) hu pl (gQb I p d) (by rw[aq,<- d.length,p.length];exact D) λh' J ms M _ G=>eXh I q M G
theorem cJv(hc:X.calm=true)(hu:X.A.units+8<bR):CallR X (.type "set") (λxs H Q=>∃x ds,xs=[x]/\dL X.K dS H x ds/\ds.length+1<=300/\∀p n,H p=none->SzOk ds n->Q (.ref p) (upd H p (szO p n))):=by
 intro pins s σ H xs us Q I r h;obtain⟨x,ds,rfl,⟨a,ys,rfl,B,p⟩,D,q⟩:=h;obtain⟨u,rfl,rx⟩:=aX4 r;cases rx;refine hd λL j=>?_;obtain⟨z,d,pl,_⟩:=I.list B;refine j ?_;exact ST.call_setK (ST.strKd X.prog X.w) (I.ok.hd hc) hu pl.isList (dZd p d) (by rw[aq,<- d.length,p.length];exact D) λh' J ms M _ G=>eXh I q M G
theorem dZe:CallR X (.builtin "len") (λxs H Q=>∃p n,xs=[.ref p]/\H p=some (szO p n)/\n<1000000/\Q (.int n) H):=by
 intro pins s σ H xs us Q I r h;obtain⟨p,n,rfl,j,B,q⟩:=h;obtain⟨u,rfl,rx⟩:=aX4 r;cases rx;refine hd λG d=>?_;obtain⟨⟨es,D,t,g,f,z⟩,_⟩:=I.hok p _ j;refine d ?_;refine call_len_set g ⟨rfl,rfl,rfl⟩ rfl f (by rw[z];lia) ⟨.int n,H,I.tok _,⟨_,by rw[z]⟩,q⟩
end
end L2
namespace L2
open PySem PySem.Spec PyProof.Rows
section
variable{prog:aA}{w:aO}{A:aW}{E:ad->ai->Prop}{s:ai}
theorem fQd(hit:s.heap.IsTupleIter it t i)(ht:s.heap.IsTuple t items)(hx:items[i]?=some x)
  (hQ:∀h',h'.IsTupleIter it t (i+1)->dZ it s.heap h'->Q x {s with heap:=h'}):aD (aE prog w) A (jD (.ref it)) Q E s:=by
 obtain⟨o,d,B,hd⟩:=id hit;obtain⟨ol,j,_,nl,z⟩:=ht;have ne:=cD;refine aa (dA hit.typeIs F.slot_tuple_iterator_next (cU F.slot_tuple_iterator_next hit.typeIs F.entry_tuple_iterator_next ?_ (F.args_tuple_iterator_next_1 _)));refine aa (m:=field (.ref it) 0) (eF d hd rfl ?_);refine(if_neg ne).symm▸(aa (eF d hd rfl ?_));refine aa (d6 j z ?_);simp only[cr,hx];refine aa (wpAny_setField d hd (by simp) (ag ⟨x,rfl,ag (hQ _ ⟨_,cF _ d (Obj.isFreed_of_fields (Obj.data_mapFields hd _)),(Obj.cls_mapFields ..).trans B,?_⟩ (bV ..))⟩))
 rw[Obj.data_mapFields hd];simp[eJ]
theorem eXi(hh:A.handled=none)(hit:s.heap.IsTupleIter it t i)(ht:s.heap.IsTuple t items)(hx:items[i]?=none)
  (hE:∀h' e,bd.ExtBut it s.heap h'->(∃o,h'.get? e=some o/\o.cls=.type "StopIteration")->E (.ref e) {s with heap:=h'}):aD (aE prog w) A (jD (.ref it)) Q E s:=by
 obtain⟨o,j,B,hd⟩:=id hit;obtain⟨ol,d,_,nl,z⟩:=ht;have ne:=cD;refine aa (dA hit.typeIs F.slot_tuple_iterator_next (cU F.slot_tuple_iterator_next hit.typeIs F.entry_tuple_iterator_next ?_ (F.args_tuple_iterator_next_1 _)));refine aa (m:=field (.ref it) 0) (eF j hd rfl ?_);refine(if_neg ne).symm▸(aa (eF j hd rfl ?_));refine aa (d6 d z ?_);simp only[cr,hx];refine aa (en (aa (wpAny_setField j hd (by simp) (aa ?_))))
 simp only[newExc,newTuple];refine aa (bC (aa (jJ (by first|rfl|(simp only[jw];rfl)) (bC ?_ (by size_fits)))) (by size_fits))
 simp only[raiseNew];refine aa (wpAny_handled ?_)
 first|rw[hh]|rw[hh]
 exact aa (ag (wpAny_throw (hE _ _ (((bV ..).extBut.push _).push _) ⟨_,au _ rfl,rfl⟩)))
theorem dZf(hh:A.handled=none)(it l:Addr)(hne:l≠it)(items:Array ad):Draws prog w A it [it,l] items.size (λi v=>items[i]?=some v) (λi h=>h.IsTupleIter it l i/\h.IsTuple l items) where
 live:=λ_ _ st=>let ⟨o,j,_⟩:=st.1;⟨o,j⟩
 frame:=λ_ _ _ st B=>⟨let ⟨o,j,r⟩:=st.1;⟨o,B it (by simp) o j,r⟩,let ⟨o,j,r⟩:=st.2;⟨o,B l (by simp) o j,r⟩⟩
 item:=λi s Q E hi st D=>fQd st.1 st.2 (x:=items[i]) (by simp[hi]) λh' z d=>D _ h' s.toks (by simp[hi]) ⟨z,st.2.extBut d.extBut hne⟩ d
 done:=λs Q E st G=>eXi hh st.1 st.2 (by simp) G
theorem gQc(l:Addr)(items:Array ad)(n:Nat)(dct:Option Addr)(sl:Array (Option ad)) :
  Meets (cX.«enumerate.__new__» ⟨[.type "enumerate",.ref l],[]⟩) (λ_ R s=>s.heap.get? l=some { cls:=.type "tuple",dict:=dct,data:=.seq items n,slots:=sl } /\
   R (.ok (.ret (.ref (s.heap.push {cls:=.type "tuple_iterator",data:=.fields #[.ref l,.int 0 0]}).objs.size)))
    {s with heap:=(s.heap.push {cls:=.type "tuple_iterator",data:=.fields #[.ref l,.int 0 0]}).push {cls:=.type "enumerate",data:=.fields #[.none,.bool false,.ref s.heap.objs.size,eJ 0,.none,.none]}}) :=
 .of_wp λprog w A R s h=>by
  obtain⟨D,g,d,B,os⟩:=s;obtain⟨hl,h⟩:=h;have j:=sub_enumerate;have z:bd.IsTuple (ai.heap ⟨D,g,d,B,os⟩) l items:=⟨_,hl,rfl,n,rfl⟩
  wp_walk using bM hl
  refine wpAny_stack_any λst=>ag ?_
  split
  ·rename_i c _ _ _ _ _;cases (c==dg "enumerate") <;>
   ·wp_walk using bM hl,fN z
    exact⟨_,rfl,h⟩
  ·wp_walk using bM hl,fN z
   exact⟨_,rfl,h⟩
theorem fQe(hT:s.heap.IsTuple l items)
  (h:∀h',IsEnum h' (s.heap.objs.size+1) s.heap.objs.size 0 .none->h'.IsTupleIter s.heap.objs.size l 0->(∀b o,s.heap.get? b=some o->h'.get? b=some o)->Q (.ref (s.heap.objs.size+1)) {s with heap:=h'}) :
  aD (aE prog w) A (call (.type "enumerate") [.ref l]) Q E s:=by
 obtain⟨⟨c,z,dt,sl⟩,hl,j,n,hd⟩:=hT;replace j:=j;replace hd:=hd;subst j hd;refine callType_new F.called_enumerate (by decide) (F.typeCall_enumerate_1 _) (F.newCall_enumerate_1 _) (λobj=>F.args_object_init_2 obj _) F.entry_enumerate_new (gQc l items n z sl) ⟨hl,?_⟩
 generalize d:({cls:=.type "tuple_iterator",data:=.fields #[.ref l,.int 0 0]}:Obj)=o1;have B:(s.heap.push o1).objs.size=s.heap.objs.size+1:=cz ..;have he:=au (s.heap.push o1) (o:={cls:=.type "enumerate",data:=.fields #[.none,.bool false,.ref s.heap.objs.size,eJ 0,.none,.none]}) rfl;have hi:(s.heap.push o1).get? s.heap.objs.size=some o1:=au _ (by rw[<- d];rfl)
 rw[B] at he ⊢;exact⟨⟨_,he,rfl⟩,h _ he ⟨o1,af _ hi,by rw[<- d],by rw[<- d];rfl⟩ λb o x=>af _ (af _ x)⟩
end
def Ite(K:Fg)(a:Addr):It:=⟨λi H=>∃xs x,SqT K H a xs/\xs[i]?=some x,λi H x H'=>∃p y,H p=none/\x=.ref p/\H'=upd H p (.tup [.int i,y])/\∀xs,SqT K H a xs->xs[i]?=some y,λi H=>∃xs,SqT K H a xs/\xs.length<=i⟩
theorem fQf{K:Fg}(a it e:Addr)(hei:e≠it)(hae:a≠e)(hai:a≠it):Turn P w K (.Tuple elts x1 pos) (Ite K a) [e,it] e (λi h=>(∃old,IsEnum h e it i old)/\h.IsTupleIter it a i) where
 mem:=by simp
 obj:=λi h st b j=>by
  obtain⟨⟨old,he⟩,o,L,hc,hd⟩:=st;rcases aw.mp j with rfl|j
  ·exact⟨_,he,λv z=>by cases z⟩
  ·have:=aF.mp j
   subst this;exact⟨o,L,λv z=>by rw[hd] at z;cases z⟩
 keep:=λi h h' st k=>by
  obtain⟨⟨old,he⟩,o,L,r⟩:=st;exact⟨⟨old,k e (by simp) _ he⟩,o,k it (by simp) _ L,r⟩
 item:=by
  intro X hP hw hK hc i pins s σ H E I hf st hg;subst hP hw hK;obtain⟨xs,x,hq,hx⟩:=hg;obtain⟨its,rv,p,hz⟩:=I.tuple hq;obtain⟨u,hu,ru⟩:=rv.get hx;obtain⟨⟨old,he⟩,D⟩:=st;have hi:i<its.toArray.size:=by
   rcases bU i its.toArray.size with z|z
   ·exact z
   ·rw[aq] at z;rw[bL z] at hu;cases hu
  have hh:X.A.in1.handled=none:=by have:=I.ok.hd hc;simp[this]
  have hT:=p;refine wpAny_pyNext_enum_itemD (dZf hh it a hai its.toArray) he ⟨D,hT⟩ hi hei (by simp;exact⟨hei,λz=>hae z.symm⟩) λy h' O hy L hs' hT' hsz hk=>⟨_,rfl,?_⟩
  have hy':y=u:=by
   have:its[i]?=some y:=by simpa using hy
   rw[hu] at this;exact(aQ this).symm
  subst hy';refine wpAny_letOwnedTupleGo_enum L λh2 he2 J=>?_;have fe:=hf e (by simp)
  have fi:=hf it (by simp)
  have U:=λb o n1 n2 g=>(J.2 b n1).trans (hk b o n1 n2 g);have Y:=aC he;have d:=I.hok.fresh (am _);have nT:∀b o,s.heap.get? b=some o->b≠s.heap.objs.size:=λb o g=>aN (aC g);have nH:∀b u,H b=some u->b≠e/\b≠it:=λb u g=>⟨λz=>(by rw[z,fe.1] at g;cases g),λz=>(by rw[z,fi.1] at g;cases g)⟩
  have G:=(J.2 _ (fI Y)).trans hT';have hok:HOk X.prog X.w (upd H s.heap.objs.size (.tup [.int i,x])) h2:=λb ob g=>by
   by_cases j:b=s.heap.objs.size
   ·subst j;rw[aQ9] at g;cases g;refine⟨by rw[aZ];show 2<=_;decide,[.int i O,y],.cons ⟨O,rfl⟩ (.cons ru .nil),⟨_,G,rfl,0,rfl⟩,λo e=>by rw[G] at e;cases e;rfl⟩
   ·rw[upd_ne j] at g;refine(I.hok b ob g).stay (λc w' B q=>?_) (λc q=>?_) λc ys q=>?_
    ·rcases B with rfl|B
     ·exact U _ _ (nH _ _ g).1 (nH _ _ g).2 q
     ·exact U _ _ (nH _ _ B).1 (nH _ _ B).2 q
    ·rw[upd_ne (ne_of_none q d)];exact q
    ·rw[upd_ne (ne_of_none q d)];exact q
  have un:Un (frs X.stack) [e,it] H (upd H s.heap.objs.size (.tup [.int i,x])) s.heap h2:=by
   have N:∀{b:Addr},b∉[e,it]->b≠e/\b≠it:=λj=>⟨λz=>j (by simp[z]),λz=>j (by simp[z])⟩
   exact⟨λb o g _ _ j=>U b o (N j).1 (N j).2 g,λb o g _ _ j=>⟨o.slots,U b o (N j).1 (N j).2 g⟩,λb o g n _=>by rw[upd_ne (nT b o g)];exact n,λb o g j=>⟨o,U b o (N j).1 (N j).2 g⟩,
    λb ys g=>by rw[upd_ne (ne_of_none g d)];exact g,λb o v g=>by rw[upd_ne (ne_of_none g d)];exact g,λb ps g=>⟨#[],by rw[upd_ne (ne_of_none g d),g];simp⟩⟩
  have I2:Inv X pins σ (upd H s.heap.objs.size (.tup [.int i,x])) {s with heap:=h2,toks:=O+1}:=I.call' rfl un hok I.bare λb j=>by
   rcases aw.mp j with rfl|j
   ·exact⟨fe.2.2.2.1,fe.2.1,fe.2.2.2.2.1,fe.2.2.2.2.2⟩
   ·have:=aF.mp j
    subst this;exact⟨fi.2.2.2.1,fi.2.1,fi.2.2.2.2.1,fi.2.2.2.2.2⟩
  refine⟨.ref s.heap.objs.size,_,I2,rfl,⟨_,x,d,rfl,rfl,λys hy=>by rw[I.tuple_inj hy hq];exact hx⟩,⟨⟨_,by simpa using he2⟩,?_⟩,λb j=>?_⟩
  ·obtain⟨o,g,r⟩:=hs'.1;exact⟨o,(J.2 it (bX hei)).trans g,r⟩
  ·have hb':b<s.heap.objs.size:=by
    rcases aw.mp j with rfl|j
    ·exact Y
    ·have:=aF.mp j
     subst this;obtain⟨o,g,_⟩:=D;exact aC g
   rw[upd_ne (aN hb')];exact(hf b j).1
 done:=by
  intro X hP hw hK hc i pins s σ H E I hf st hg;subst hP hw hK;obtain⟨xs,hq,hx⟩:=hg;obtain⟨its,rv,p,hz⟩:=I.tuple hq;obtain⟨⟨old,he⟩,D⟩:=st;have hl:=rv.length;have hh:X.A.in1.handled=none:=by have:=I.ok.hd hc;simp[this]
  have hT:=p;obtain⟨f0,f1,f2,f3,f4,f5⟩:=hf it (by simp)
  have Z:s.TypeIs (.ref e) "enumerate":=⟨_,he,rfl⟩;refine aa (wpAny_attempt (dA Z F.slot_enumerate_next (cU F.slot_enumerate_next Z F.entry_enumerate_next ?_ (F.args_enumerate_next_1 _))));refine aa (m:=field (.ref e) 2) (eF he rfl rfl (aa (eXi hh D hT (by simp;lia) λh' x he' hx'=>?_)))
  obtain⟨o,L,B⟩:=hx';refine aa (j3 ⟨o,L,B⟩ isSubtype_stop ?_);exact ag ⟨rfl,I.turned (λb o j g=>he' b o j g) f0 f1 f3 f4 f5⟩
 self:=λA i s Q E st h=>by
  obtain⟨⟨old,he⟩,_⟩:=st;exact wpAny_pyIter_enum he h
section
variable{X:Cx}
def iEnT(K:Fg)(ta:TA):TI:=fun σ H R=>ta σ H λvs H1=>∃a,vs=[.ref a]/\(∃xs,SqT K H1 a xs)/\R (Ite K a) H1
theorem gJk(hg:Gl X "enumerate")(hm:X.mg "enumerate"=none)(ha:PA X [e] ta)(hs:az [e] X.env=[(false,eval e X.env)]:=by rfl) :
  PI X (.Tuple elts x1 tpos) (.Call (.Name "enumerate" p) [e] [] pos) (iEnT X.K ta):=by
 intro pins s σ H R I h;refine Call_ (ld_blt I hg hm PyProof.Rows.boot_enumerate (ew (thn (ha pos pins s σ H _ I h) λus s1 ⟨vs,H1,d,D,G⟩=>?_) hs rfl));obtain⟨a,rfl,⟨xs,J⟩,q⟩:=G;obtain⟨u,rfl,rx⟩:=aX4 D;cases rx;obtain⟨z,N,pl,O⟩:=d.tuple J;have j:a<s1.heap.objs.size:=by obtain⟨o,e,_⟩:=id pl;exact aC e
 refine fQe (pl) λh' he hi L=>wpAny_pyIter_enum he ?_
 refine⟨s1.heap.objs.size+1,[s1.heap.objs.size+1,s1.heap.objs.size],_,_,H1,rfl,d.kept L,fQf a s1.heap.objs.size (s1.heap.objs.size+1) (Nat.succ_ne_self _) (aN (cK j)) (aN j),⟨⟨_,he⟩,hi⟩,λb B=>?_,q⟩;rcases aw.mp B with rfl|B
 ·exact d.fpOk (d4 _) (d.hok.fresh (d4 _))
 ·have:=aF.mp B
  subst this;exact d.fpOk (am _) (d.hok.fresh (am _))
end
end L2
namespace HT
open PySem PyProof.Rows
def ltS(a b:Str):Bool:=decide (a.cps.toList<b.cps.toList)
def lexS:List Str->List Str->Bool
 |[],[]=>false
 |[],_::_=>true
 |_::_,[]=>false
 |x::xs,y::ys=>if x=y then lexS xs ys else ltS x y
theorem lexS_cons(x y:Str)(xs ys:List Str):lexS (x::xs) (y::ys)=if x=y then lexS xs ys else ltS x y:=rfl
theorem bJw:lexS [] []=false:=rfl
theorem lexS_nil_cons(y:Str)(ys:List Str):lexS [] (y::ys)=true:=rfl
theorem lexS_cons_nil(x:Str)(xs:List Str):lexS (x::xs) []=false:=rfl
abbrev SAre:List ad->List Str->Prop:=bc λv x=>∃t,v=.str x t
theorem SAre.len(h:SAre l m):l.length=m.length:=bW h
theorem fQg(A:aW)(s:ai)(a:Str)(t:Tok)(c:Str)(u:Tok):∃e,cV A s (.str a t) (.str c u) e/\(e=true↔a=c) :=
 ⟨(a==c),jx a t c u,by simp⟩
theorem rcLt_st(A:aW)(s:ai)(a:Str)(t:Tok)(c:Str)(u:Tok)(prog:aA)(w:aO)(E:ad->ai->Prop)(Q:ad->ai->Prop)(h:Q (.bool (ltS a c)) s) :
  aD (aE prog w) A (richCompare .Lt (.str a t) (.str c u)) Q E s :=
 (k4 h)
section
open PySem.SeqAt
open PySem.AutoSeq1 (wpAny_loadPart')
open PySem.MeetsSeq PySem.MeetsSeq2 PySem.MeetsSeq3
theorem tuple_lt_strs(l b:Addr)(items items2:Array ad)(n n2:Nat)(dd dd2:Option Addr)(sl sl2:Array (Option ad))(ns ms:List Str)(hi:SAre items.toList ns)(hj:SAre items2.toList ms) :
  Meets (cX.«tuple.__lt__» ⟨[.ref l,.ref b],[]⟩)
   (λ_ R s=>s.heap.get? l=some { cls:=.type "tuple",dict:=dd,data:=.seq items n,slots:=sl }/\s.heap.get? b=some { cls:=.type "tuple",dict:=dd2,data:=.seq items2 n2,slots:=sl2 } /\
    R (.ok (.ret (.bool (lexS ns ms)))) s) :=
 .of_wp λprog w A R s h=>by
  obtain⟨U,g,d,O,os⟩:=s;obtain⟨hl,hb,h⟩:=h;have f2:=gG;have z1:items.size=ns.length:=by rw[<- hi.len];simp
  have z2:items2.size=ms.length:=by rw[<- hj.len];simp
  wp_walk using bM hl,bM hb,iE _ (λrest b s'=>b.1=none/\s'=⟨U,g,d,O,os⟩/\∃ (vs ws:List ad) (j z:List Str),rest=vs.zip ws /\
   SAre vs j/\SAre ws z/\j.length+items2.size=z.length+items.size/\R (.ok (.ret (.bool (lexS j z)))) ⟨U,g,d,O,os⟩) _
  case turn =>
   rintro⟨y,x⟩ rest b s' ⟨J,rfl,vs,ws,j,z,hz,hvi,hwi,hlen,D⟩;cases hvi with
   |nil=>rw[f8] at hz;cases hz
   |@cons va a _ _ ha N =>
    obtain⟨t,rfl⟩:=ha;cases hwi with
    |nil=>rw[gR] at hz;cases hz
    |@cons vc c _ _ hc L =>
     obtain⟨u,rfl⟩:=hc;rw[cP] at hz;injection hz with Y G
     injection Y with hy hx
     subst hy hx;rw[lexS_cons] at D;simp only[aG] at hlen;obtain⟨e,he,B⟩:=fQg A.in1 ⟨U,g,d,O,os⟩ a t c u;refine aa (he prog w _ _ ?_);cases e with
     |true =>
      rw[if_pos (B.mp rfl)] at D
      wp_walk
      exact⟨rfl,rfl,_,_,_,_,G,N,L,by lia,D⟩
     |false =>
      rw[if_neg (λq=>absurd (B.mpr q) cD)] at D;have Z:=rcLt_st A.in1 ⟨U,g,d,O,os⟩ a t c u prog w
      wp_walk using Z
      exact⟨_,rfl,by simpa using D⟩
  case fin =>
   rintro⟨b1,b2⟩ s' ⟨J,rfl,vs,ws,j,z,hz,hvi,hwi,hlen,D⟩;simp only at J;subst J;have hv:lexS j z=decide (items.size<items2.size):=by
    cases hvi with
    |nil =>
     cases hwi with
     |nil =>
      simp only[dq] at hlen;rw[bJw];exact(decide_eq_false (by lia)).symm
     |cons hc hw =>
      simp only[dq,aG] at hlen;rw[lexS_nil_cons];exact(decide_eq_true (by lia)).symm
    |cons ha hv =>
     cases hwi with
     |nil =>
      simp only[dq,aG] at hlen;rw[lexS_cons_nil];exact(decide_eq_false (by lia)).symm
     |cons hc hw =>
      rw[cP] at hz;cases hz
   rw[hv] at D
   wp_walk
   exact⟨_,rfl,by simpa [iq] using D⟩
  case h =>
   exact⟨rfl,rfl,items.toList,items2.toList,ns,ms,rfl,hi,hj,by lia,h⟩
end
section
variable{prog:aA}{w:aO}{A:aW}{E:ad->ai->Prop}{s:ai}
theorem lt_tupStrs(hl:gV s.heap l items)(hb:gV s.heap b items2)(hi:SAre items.toList ns)(hj:SAre items2.toList ms)
  (hu:A.units<bR) (h:Q (.bool (lexS ns ms)) s):aD (aE prog w) A (cq .Lt (.ref l) (.ref b)) Q E s:=by
 obtain⟨⟨cls,dd,data,sl⟩,D,G,n,hd⟩:=id hl;obtain⟨⟨J,B,data2,z⟩,d,j,L,hd2⟩:=id hb;simp only at G hd j hd2;subst G hd j hd2;exact ig (op:=.Lt) ⟨_,D,rfl⟩ ⟨_,d,rfl⟩ dR fO (fC _ _) (tuple_lt_strs l b items items2 n L dd B sl z ns ms hi hj)
  ⟨D,d,⟨(λx=>nomatch x),h⟩⟩ hu
end
end HT
namespace L2
open PySem PySem.Spec PyProof.Rows
theorem bQu:∀{xs:List V}{us:List ad}{ds:List Str},bc (dS H) xs ds->Vals xs us->HT.SAre us ds
 |_,_,_,.nil,.nil=>.nil
 |_,_,_,.cons p q,.cons r t=>by
  cases p;exact .cons r (bQu q t)
def rLtS(K:Fg):R2:=λx y H Q=>∃d e,dT K dS H x d/\dT K dS H y e/\Q (.bl (HT.lexS d e)) H
theorem gQd(hu:X.A.units<bR):OpR X (cq .Lt) (rLtS X.K):=by
 intro pins s σ H x y v u Q I rx ry h;obtain⟨d,e,⟨a,xs,rfl,O,G⟩,⟨b,ys,rfl,N,D⟩,q⟩:=h;cases rx;cases ry;obtain⟨L,B,J,_⟩:=I.tuple O;obtain⟨j,z,p2,_⟩:=I.tuple N;exact HT.lt_tupStrs J p2 (bQu G B) (bQu D z) hu ⟨.bl (HT.lexS d e),H,I,rfl,q⟩
variable{α β γ:Type}
theorem gQe:(aQe X N' scope cl C fp s H (some x)).fn x=true:=decide_eq_true rfl
theorem gJl(l:List α)(h:l≠[]):atI l (-1)=some (l.getLast h):=by
 unfold atI ixN;have hl:=fx.mpr h;have e:(-1+(l.length:Int)).toNat=l.length-1:=by lia
 rw[if_neg (by decide),if_pos (by lia),e]
 show l[l.length-1]?=_;rw[List.getLast_eq_getElem,ah (by lia)]
theorem nd_(l:List Str)(h:l.Nodup:=by decide +kernel):l.Nodup:=h
theorem lt64(r:Room k A)(h:n<=64:=by decide):A.units+n<bR:=by have:=r.units;lia
section
variable{X:Cx}{K:Fg}{tg:Expr}{a:Expr}{ta:TE}
theorem fQh(hK:X.K=K:=by rfl):SlR X (rSlT K):=hK▸fJv
theorem eQm(hK:X.K=K:=by rfl):SlR X (rSlL K):=hK▸eJx
theorem eQn(hK:X.K=K:=by rfl):OpR X (eX .Add) (eJv K):=hK▸eJw
theorem cZ0(hK:X.K=K:=by rfl):CallR X (.type "tuple") (λxs H Q=>∃p ys,xs=[.ref p]/\((SqL K H p ys/\∀l,H l=none->Q (.ref l) (upd H l (.tup ys)))\/(SqT K H p ys/\Q (.ref p) H))):=hK▸bXi
theorem cJw(hK:X.K=K:=by rfl):CallR X (.type "list") (λxs H Q=>∃p ys,xs=[.ref p]/\(SqL K H p ys\/SqT K H p ys)/\∀l,H l=none->Q (.ref l) (upd H l (.lst ys))):=hK▸call_list_of
theorem dZg(hK:X.K=K:=by rfl)(hc:X.calm=true:=by rfl):CallR X (.builtin "all") (λxs H Q=>∃x bs,xs=[x]/\dL K dB H x bs/\Q (.bl (bs.all id)) H):=hK▸dZb hc
theorem dZh(hK:X.K=K:=by rfl)(hc:X.calm=true:=by rfl):CallR X (.builtin "any") (λxs H Q=>∃x bs,xs=[x]/\dL K dB H x bs/\Q (.bl (bs.any id)) H):=hK▸dZc hc
theorem cZ1(hu:X.A.units+8<bR)(hK:X.K=K:=by rfl)(hc:X.calm=true:=by rfl):CallR X (.type "set") (λxs H Q=>∃x ds,xs=[x]/\dT K (dT K dS) H x ds/\ds.length+1<=300/\∀p n,H p=none->SzOk ds n->Q (.ref p) (upd H p (szO p n))):=hK▸cJu hc hu
theorem cZ2(hu:X.A.units+8<bR)(hK:X.K=K:=by rfl)(hc:X.calm=true:=by rfl):CallR X (.type "set") (λxs H Q=>∃x ds,xs=[x]/\dL K dS H x ds/\ds.length+1<=300/\∀p n,H p=none->SzOk ds n->Q (.ref p) (upd H p (szO p n))):=hK▸cJv hc hu
theorem fQi(hu:X.A.units<bR)(hK:X.K=K:=by rfl):OpR X (cq .Lt) (rLtS K):=hK▸gQd hu
theorem dZi(ha:PE X a ta)(he:∀whole,isTrue a X.env whole=(do let v <- whole;gn a.pos;fZ [v] (truthy v)))(hK:X.K=K:=by rfl):PT X a (fun σ H Q=>ta σ H λx H'=>∃k,TruV K x H' k/\Q k H'):=by subst hK;exact eQ8 ha he
theorem gQf{ta:TA}{p pos:Pos}{elts:List Expr}{x1:Nat}{tpos:Pos}(hg:Gl X "enumerate")(hm:X.mg "enumerate"=none)(ha:PA X [e] ta)(hs:az [e] X.env=[(false,eval e X.env)]:=by rfl)(hK:X.K=K:=by rfl) :
  PI X (.Tuple elts x1 tpos) (.Call (.Name "enumerate" p) [e] [] pos) (iEnT K ta):=by subst hK;exact gJk hg hm ha hs
end
end L2
namespace KS
open PySem PySem.W PyProof.Rows
def run{α:Type}(lt:Nat->Nat->Bool):KasT α->α
 |.ret a=>a
 |.ask i j k=>run lt (k (lt i j))
theorem aXm{f:α->KasT β}:∀t:KasT α,run lt (t.bind f)=run lt (f (run lt t))
 |.ret _=>rfl
 |.ask i j k=>aXm (k (lt i j))
structure Ord(lt:Nat->Nat->Bool)(n:Nat):Prop where
 tot:∀i j,i<n->j<n->i≠j->lt i j=false->lt j i=true
 asy:∀i j,lt i j=true->lt j i=false
 tr:∀i j k,lt i j=true->lt j k=true->lt i k=true
variable{lt:Nat->Nat->Bool}{n:Nat}
abbrev at'(p:Array Nat)(k:Nat):Nat:=p.getD k 0
theorem bJx(p:Array Nat)(k:Nat):at' p k=(p[k]?).getD 0:=by
 by_cases h:k<p.size
 ·simp[cW,h]
 ·simp[cW,h]
structure Vd(n:Nat)(p:Array Nat):Prop where
 sz:p.size=n
 pm:p.toList.Perm (aI n)
theorem Vd.low(v:Vd n p){a:Nat}(h:a<n):at' p a<n:=by
 have hs:a<p.size:=by rw[v.sz];exact h
 have e:at' p a=p[a]:=by simp[at',cW,hs]
 rw[e]
 have:p[a]∈p.toList:=by simp
 exact aU.mp (v.pm.mem_iff.mp this)
theorem Vd.ne(v:Vd n p){a b:Nat}(ha:a<n)(hb:b<n)(hab:a≠b):at' p a≠at' p b:=by
 have nd:=v.pm.nodup_iff.mpr iD;have hs:a<p.size:=by rw[v.sz];exact ha
 have d:b<p.size:=by rw[v.sz];exact hb
 have e:at' p a=p[a]:=by simp[at',cW,hs]
 have B:at' p b=p[b]:=by simp[at',cW,d]
 rw[e,B];intro z;have j:p.toList[a]'(by simpa using hs)=p.toList[b]'(by simpa using d):=by simpa using z
 exact hab ((jW nd).mp j)
theorem Vd.perm(v:Vd n p)(h:q.Perm p):Vd n q:=⟨by
 have:=h.toList.length_eq
 simp only[aT] at this;rw[this,v.sz],h.toList.trans v.pm⟩
def Asc(lt:Nat->Nat->Bool)(p:Array Nat)(m:Nat):Prop:=∀a b,a<b->b<m->lt (at' p a) (at' p b)=true
def Dsc(lt:Nat->Nat->Bool)(p:Array Nat)(m:Nat):Prop:=∀a b,a<b->b<m->lt (at' p b) (at' p a)=true
theorem Asc.up(o:Ord lt n){p:Array Nat}{m:Nat}(h:Asc lt p m)(h1:1<=m)(hl:lt (at' p (m-1)) (at' p m)=true):Asc lt p (m+1):=λa b d j=>by
 rcases bU b m with z|z
 ·exact h a b d z
 ·have e:b=m:=by lia
  subst e;rcases bU a (b-1) with y|y
  ·exact o.tr _ _ _ (h a (b-1) y (by lia)) hl
  ·have e:a=b-1:=by lia
   rw[e];exact hl
theorem Dsc.up(o:Ord lt n){p:Array Nat}{m:Nat}(h:Dsc lt p m)(h1:1<=m)(hl:lt (at' p m) (at' p (m-1))=true):Dsc lt p (m+1):=λa b d j=>by
 rcases bU b m with z|z
 ·exact h a b d z
 ·have e:b=m:=by lia
  subst e;rcases bU a (b-1) with y|y
  ·exact o.tr _ _ _ hl (h a (b-1) y (by lia))
  ·have e:a=b-1:=by lia
   rw[e];exact hl
theorem cZ3(o:Ord lt n){p:Array Nat}(v:Vd n p):∀(f m:Nat),1<=m->m+f<=n->Asc lt p m->m<=run lt (kas_asc p f m)/\run lt (kas_asc p f m)<=m+f/\Asc lt p (run lt (kas_asc p f m))/\(run lt (kas_asc p f m)<m+f->lt (at' p (run lt (kas_asc p f m))) (at' p (run lt (kas_asc p f m)-1))=true)
 |0,m,_,_,h=>⟨am _,am _,h,λz=>absurd z (cT _)⟩
 |f+1,m,h1,hf,h=>by
  show _<=run lt (if lt (at' p m) (at' p (m-1))=true then KasT.ret m else kas_asc p f (m+1))/\run lt (if lt (at' p m) (at' p (m-1))=true then KasT.ret m else kas_asc p f (m+1))<=_/\Asc lt p (run lt (if lt (at' p m) (at' p (m-1))=true then KasT.ret m else kas_asc p f (m+1)))/\(run lt (if lt (at' p m) (at' p (m-1))=true then KasT.ret m else kas_asc p f (m+1))<_->lt (at' p (run lt (if lt (at' p m) (at' p (m-1))=true then KasT.ret m else kas_asc p f (m+1)))) (at' p (run lt (if lt (at' p m) (at' p (m-1))=true then KasT.ret m else kas_asc p f (m+1))-1))=true)
  cases c:lt (at' p m) (at' p (m-1)) with
  |true =>
   rw[if_pos rfl];exact⟨am _,by show m<=_;lia,h,λ_=>c⟩
  |false =>
   rw[if_neg (by simp)]
   obtain⟨a,b,j,d⟩:=cZ3 o v f (m+1) (by lia) (by lia) (h.up o h1 (o.tot _ _ (v.low (by lia)) (v.low (by lia)) (v.ne (by lia) (by lia) (by lia)) c))
   exact⟨by lia,by lia,j,λz=>d (by lia)⟩
theorem cX9(o:Ord lt n){p:Array Nat}(v:Vd n p):∀(f m:Nat),1<=m->m+f<=n->Dsc lt p m->∃m',run lt (kas_desc f p m 0)=(p,m',0)/\m<=m'/\m'<=m+f/\Dsc lt p m'
 |0,m,_,_,h=>⟨m,rfl,am _,am _,h⟩
 |f+1,m,h1,hf,h=>by
  cases c:lt (at' p m) (at' p (m-1)) with
  |true =>
   obtain⟨m',e,a,b,d⟩:=cX9 o v f (m+1) (by lia) (by lia) (h.up o h1 c)
   refine⟨m',?_,by lia,by lia,d⟩
   show run lt (if lt (at' p m) (at' p (m-1))=true then (if 0>0 then kas_desc f (kas_rev p (m-(0+1)) m) (m+1) 0 else kas_desc f p (m+1) 0) else _)=_
   rw[c,if_pos rfl,if_neg (by lia)]
   exact e
  |false =>
   have j:=o.tot _ _ (v.low (by lia)) (v.low (by lia)) (v.ne (by lia) (by lia) (by lia)) c
   refine⟨m,?_,by lia,by lia,h⟩
   show run lt (if lt (at' p m) (at' p (m-1))=true then _ else KasT.ask (p.getD (m-1) 0) (p.getD m 0) λd=>if d=true then KasT.ret (p,m,0) else kas_desc f p (m+1) (0+1))=_
   rw[c,if_neg (by simp)]
   show run lt (if lt (at' p (m-1)) (at' p m)=true then KasT.ret (p,m,0) else kas_desc f p (m+1) (0+1))=_
   rw[j,if_pos rfl]
   rfl
theorem cXa(v:Vd n p)(m:Nat):Vd n (kas_rev p 0 m):=v.perm (mirror_perm _ _ _ _)
theorem rev_at(v:Vd n p){m:Nat}(hm:m<=n){a:Nat}(ha:a<m):at' (kas_rev p 0 m) a=at' p (m-1-a):=by
 rw[bJx,bJx];unfold kas_rev;rw[i8 (by rw[v.sz];exact hm),if_pos ⟨bN _,ha⟩,ki]
theorem fQj(v:Vd n p){m:Nat}(hm:m<=n)(h:Dsc lt p m):Asc lt (kas_rev p 0 m) m:=λa b j d=>by
 rw[rev_at v hm (by lia),rev_at v hm d]
 exact h _ _ (by lia) (by lia)
theorem eQo(o:Ord lt n){p:Array Nat}(v:Vd n p){m:Nat}(h1:1<=m)(hm:m<=n)(h:Dsc lt p m):Vd n (run lt (kas_tail3 m n p)).2/\1<=(run lt (kas_tail3 m n p)).1/\(run lt (kas_tail3 m n p)).1<=n/\Asc lt (run lt (kas_tail3 m n p)).2 (run lt (kas_tail3 m n p)).1:=by
 unfold kas_tail3;rw[aXm];obtain⟨a,b,c,_⟩:=cZ3 o (cXa v m) (n-m) m h1 (by lia) (fQj v hm h)
 exact⟨cXa v m,by show 1<=run lt _;lia,by show run lt _<=n;lia,c⟩
theorem bJy(o:Ord lt n){p:Array Nat}(v:Vd n p)(hn:1<=n):Vd n (run lt (kas_count n p)).2/\1<=(run lt (kas_count n p)).1/\(run lt (kas_count n p)).1<=n/\Asc lt (run lt (kas_count n p)).2 (run lt (kas_count n p)).1:=by
 unfold kas_count;rw[aXm];have one:Asc lt p 1:=λa b h1 h2=>by lia
 obtain⟨j,G,d,hd⟩:=cZ3 o v (n-1) 1 (am _) (by lia) one
 generalize run lt (kas_asc p (n-1) 1)=m at j G d hd
 by_cases e:(m==n)=true
 ·rw[if_pos e]
  have:m=n:=by simpa using e
  exact⟨v,j,by show m<=n;lia,d⟩
 ·rw[if_neg e];have B:m≠n:=by simpa using e
  by_cases h1:m>1
  ·rw[if_pos h1];have c:=d 0 (m-1) (by lia) (by lia)
   show Vd n (run lt (if lt (p.getD 0 0) (p.getD (m-1) 0)=true then KasT.ret (m,p) else kas_descPart m n (kas_rev p 0 m))).2/\1<=(run lt (if lt (p.getD 0 0) (p.getD (m-1) 0)=true then KasT.ret (m,p) else kas_descPart m n (kas_rev p 0 m))).1/\(run lt (if lt (p.getD 0 0) (p.getD (m-1) 0)=true then KasT.ret (m,p) else kas_descPart m n (kas_rev p 0 m))).1<=n/\Asc lt (run lt (if lt (p.getD 0 0) (p.getD (m-1) 0)=true then KasT.ret (m,p) else kas_descPart m n (kas_rev p 0 m))).2 (run lt (if lt (p.getD 0 0) (p.getD (m-1) 0)=true then KasT.ret (m,p) else kas_descPart m n (kas_rev p 0 m))).1
   rw[c,if_pos rfl];exact⟨v,j,by show m<=n;lia,d⟩
  ·rw[if_neg h1];have em:m=1:=by lia
   subst em;have Z:Dsc lt p 2:=λa b J D=>by
    have U:a=0:=by lia
    have O:b=1:=by lia
    subst U O;exact hd (by lia)
   obtain⟨z,Y,h2,h3,L⟩:=cX9 o v (n-2) 2 (by lia) (by lia) Z
   have N:run lt (kas_descPart 1 n p)=run lt (kas_tail3 z n p):=by
    unfold kas_descPart;rw[aXm];rw[Y,if_neg (by lia)]
   rw[N];exact eQo o v (by lia) (by lia) L
theorem bQv(o:Ord lt n){p:Array Nat}(v:Vd n p){k:Nat}(hk:k<n)(h:Asc lt p k):∀(f l r:Nat),l<=r->r<=k->r-l<=f->(∀a,a<l->lt (at' p a) (at' p k)=true)->(∀b,r<=b->b<k->lt (at' p k) (at' p b)=true) ->
  ∃z,run lt (kas_place p k f l r)=z/\z<=k/\(∀a,a<z->lt (at' p a) (at' p k)=true)/\∀b,z<=b->b<k->lt (at' p k) (at' p b)=true
 |0,l,r,h1,h2,N,B,j=>⟨l,rfl,by lia,B,λb G=>j b (by lia)⟩
 |f+1,l,r,h1,h2,N,B,j=>by
  show ∃z,run lt (if l>=r then KasT.ret l else _)=z/\_
  by_cases d:l>=r
  ·rw[if_pos d];exact⟨l,rfl,by lia,B,λb G=>j b (by lia)⟩
  ·rw[if_neg d];show ∃z,run lt (if lt (at' p k) (at' p ((l+r)/2))=true then kas_place p k f l ((l+r)/2) else kas_place p k f ((l+r)/2+1) r)=z/\_
   have hm:(l+r)/2<k:=by lia
   cases c:lt (at' p k) (at' p ((l+r)/2)) with
   |true =>
    rw[if_pos rfl];refine bQv o v hk h f l ((l+r)/2) (by lia) (by lia) (by lia) B λb G D=>?_
    rcases eM G with e|e
    ·rw[<- e];exact c
    ·exact o.tr _ _ _ c (h _ _ e D)
   |false =>
    rw[if_neg (by simp)]
    have J:=o.tot _ _ (v.low hk) (v.low (by lia)) (v.ne hk (by lia) (by lia)) c
    refine bQv o v hk h f ((l+r)/2+1) r (by lia) h2 (by lia) (λa L=>?_) j
    rcases eM (dI L) with e|e
    ·rw[e];exact J
    ·exact o.tr _ _ _ (h _ _ e hm) J
theorem dZj(o:Ord lt n):∀(f:Nat) {p:Array Nat}{k:Nat},Vd n p->k+f=n->Asc lt p k->Vd n (run lt (kas_bin f p k))/\Asc lt (run lt (kas_bin f p k)) n
 |0,p,k,v,e,h=>by
  have:k=n:=by lia
  subst this;exact⟨v,h⟩
 |f+1,p,k,v,e,h=>by
  have B:k<n:=by lia
  show Vd n (run lt ((kas_place p k k 0 k).bind _))/\Asc lt (run lt ((kas_place p k k 0 k).bind _)) n;rw[aXm];obtain⟨z,U,Y,h1,h2⟩:=bQv o v B h k 0 k (bN _) (am _) (by lia) (λa Z=>by lia) (λb N L=>by lia)
  rw[U];have J:Vd n (bubble p k (k-z)):=v.perm (bubble_perm _ _ _);refine dZj o f J (by lia) λa b O N=>?_
  have g:∀j,at' (bubble p k (k-z)) j=if j=z then at' p k else if z<j/\j<=k then at' p (j-1) else at' p j:=λj=>by
   rw[bJx,getElem?_bubble (by rw[v.sz];exact B) (k-z) (by lia),show k-(k-z)=z by lia]
   split
   ·rw[bJx]
   ·split <;> rw[bJx]
  rw[g,g]
  by_cases G:a=z
  ·rw[if_pos G,if_neg (by lia),if_pos ⟨by lia,by lia⟩]
   exact h2 _ (by lia) (by lia)
  ·rw[if_neg G]
   by_cases D:b=z
   ·rw[if_pos D,if_neg (by lia)]
    exact h1 _ (by lia)
   ·rw[if_neg D]
    by_cases ca:z<a/\a<=k <;> by_cases d:z<b/\b<=k
    ·rw[if_pos ca,if_pos d];exact h _ _ (by lia) (by lia)
    ·lia
    ·rw[if_neg ca,if_pos d];exact h _ _ (by lia) (by lia)
    ·rw[if_neg ca,if_neg d];exact h _ _ (by lia) (by lia)
theorem eQp(o:Ord lt n)(hn:1<=n):Vd n (run lt (kas_sort n))/\Asc lt (run lt (kas_sort n)) n:=by
 unfold kas_sort;rw[aXm];have v0:Vd n (fP (aI n)):=⟨by simp,by simp⟩
 obtain⟨a,b,c,d⟩:=bJy o v0 hn
 by_cases h:(run lt (kas_count n (fP (aI n)))).1<n
 ·rw[if_pos h];have e:max (run lt (kas_count n (fP (aI n)))).1 1=(run lt (kas_count n (fP (aI n)))).1:=by lia
  rw[e];exact dZj o _ a (by lia) d
 ·rw[if_neg h];have e:(run lt (kas_count n (fP (aI n)))).1=n:=by lia
  rw[e] at d;exact⟨a,d⟩
def Okq{α:Type}(lt:Nat->Nat->Bool)(n:Nat):KasT α->Prop
 |.ret _=>True
 |.ask i j k=>i<n/\j<n/\Okq lt n (k (lt i j))
theorem aXn{f:α->KasT β}:∀t:KasT α,Okq lt n t->Okq lt n (f (run lt t))->Okq lt n (t.bind f)
 |.ret _,_,h=>h
 |.ask i j k,⟨a,b,c⟩,h=>⟨a,b,aXn (k (lt i j)) c h⟩
theorem Vd.any(v:Vd n p)(hn:1<=n)(a:Nat):p.getD a 0<n:=by
 by_cases h:a<n
 ·exact v.low h
 ·have:¬ a<p.size:=by rw[v.sz];exact h
  simp[cW,this];lia
theorem cZ4(v:Vd n p)(hn:1<=n):∀f m,Okq lt n (kas_asc p f m)
 |0,_=>trivial
 | f + 1,m=>⟨v.any hn _,v.any hn _,by
  dsimp only
  split
  ·trivial
  ·exact cZ4 v hn f (m+1)⟩
theorem dZk(v:Vd n p)(i j:Nat):Vd n (kas_rev p i j):=v.perm (mirror_perm _ _ _ _)
theorem bQb(hn:1<=n):∀(f:Nat) {p:Array Nat}(m q:Nat),Vd n p->Okq lt n (kas_desc f p m q)/\Vd n (run lt (kas_desc f p m q)).1
 |0,p,m,q,v=>⟨trivial,v⟩
 |f+1,p,m,q,v=>by
  show(_/\_/\Okq lt n (if lt (p.getD m 0) (p.getD (m-1) 0)=true then (if q>0 then kas_desc f (kas_rev p (m-(q+1)) m) (m+1) 0 else kas_desc f p (m+1) 0) else _))/\Vd n (run lt (if lt (p.getD m 0) (p.getD (m-1) 0)=true then (if q>0 then kas_desc f (kas_rev p (m-(q+1)) m) (m+1) 0 else kas_desc f p (m+1) 0) else _)).1
  by_cases c:lt (p.getD m 0) (p.getD (m-1) 0)=true
  ·rw[if_pos c]
   by_cases j:q>0
   ·rw[if_pos j];obtain⟨a,b⟩:=bQb hn f (m+1) 0 (dZk v (m-(q+1)) m);exact⟨⟨v.any hn _,v.any hn _,a⟩,b⟩
   ·rw[if_neg j];obtain⟨a,b⟩:=bQb hn f (m+1) 0 v;exact⟨⟨v.any hn _,v.any hn _,a⟩,b⟩
  ·rw[if_neg c];show(_/\_/\_/\_/\Okq lt n (if lt (p.getD (m-1) 0) (p.getD m 0)=true then KasT.ret (p,m,q) else kas_desc f p (m+1) (q+1)))/\Vd n (run lt (if lt (p.getD (m-1) 0) (p.getD m 0)=true then KasT.ret (p,m,q) else kas_desc f p (m+1) (q+1))).1
   by_cases d:lt (p.getD (m-1) 0) (p.getD m 0)=true
   ·rw[if_pos d];exact⟨⟨v.any hn _,v.any hn _,v.any hn _,v.any hn _,trivial⟩,v⟩
   ·rw[if_neg d];obtain⟨a,b⟩:=bQb hn f (m+1) (q+1) v;exact⟨⟨v.any hn _,v.any hn _,v.any hn _,v.any hn _,a⟩,b⟩
theorem cXb(v:Vd n p)(hn:1<=n)(m k:Nat):Okq lt n (kas_tail3 m k p):=aXn _ (cZ4 (cXa v m) hn _ _) trivial
theorem bQ0(v:Vd n p)(hn:1<=n)(m k:Nat):Okq lt n (kas_descPart m k p):=by
 obtain⟨a,b⟩:=bQb hn (k-(m+1)) (m+1) 0 v;refine aXn _ a ?_
 split
 ·exact cXb (dZk b _ _) hn _ _
 ·exact cXb b hn _ _
theorem dZl(v:Vd n p)(hn:1<=n)(k:Nat):Okq lt n (kas_count k p):=by
 refine aXn _ (cZ4 v hn _ _) ?_
 split
 ·trivial
 ·split
  ·refine⟨v.any hn _,v.any hn _,?_⟩;dsimp only
   split
   ·trivial
   ·exact bQ0 (cXa v _) hn _ _
  ·exact bQ0 v hn _ _
theorem bQw(v:Vd n p)(hn:1<=n)(k:Nat):∀f l r,Okq lt n (kas_place p k f l r)
 |0,_,_=>trivial
 |f+1,l,r=>by
  show Okq lt n (if l>=r then KasT.ret l else _)
  split
  ·trivial
  ·refine⟨v.any hn _,v.any hn _,?_⟩;dsimp only
   split
   ·exact bQw v hn k f _ _
   ·exact bQw v hn k f _ _
theorem dZm(hn:1<=n):∀(f:Nat) {p:Array Nat}(k:Nat),Vd n p->Okq lt n (kas_bin f p k)
 |0,_,_,_=>trivial
 |f+1,p,k,v=>aXn _ (bQw v hn k _ _ _) (dZm hn f (k+1) (v.perm (bubble_perm _ _ _)))
theorem eQq(o:Ord lt n)(hn:1<=n):Okq lt n (kas_sort n):=by
 have v0:Vd n (fP (aI n)):=⟨by simp,by simp⟩
 refine aXn _ (dZl v0 hn n) ?_
 split
 ·exact dZm hn _ _ (bJy o v0 hn).1
 ·trivial
theorem eXj(hc:∀i j C,i<n->j<n->C (lt i j) s->cmp i j C s){Q:α->ai->Prop}:∀t:KasT α,Okq lt n t->Q (run lt t) s->t.kasWp cmp Q s
 |.ret a,_,q=>q
 |.ask i j k,⟨a,b,c⟩,q=>hc i j _ a b (eXj hc (k (lt i j)) c q)
end KS
set_option maxHeartbeats 1000000
namespace ST
open PySem PySem.SetTable PySem.Spec PyProof.Rows
theorem bZo:entryFor table "set.__iter__"=some cX.«frozenset.__iter__»:=entryFor_alias (id':="frozenset.__iter__") (by kernel_rfl) rfl (by decide +kernel) (by kernel_rfl)
theorem slot_setit_next:Slot "set_iterator" "__next__" "set_iterator.__next__" :=
 .of (owner:="set_iterator") (n:="__next__") (by rw[typeLookup_type,builtinLookup_eq_fast];kernel_rfl) (by decide +kernel) (by decide +kernel) (by decide +kernel)
  (by first|exact .inl (by decide +kernel)|exact .inr (by decide +kernel)) (by rw[isSubtype_type];kernel_rfl)
theorem bQ5:entryFor table "set_iterator.__next__"=some cX.«set_iterator.__next__»:=entryFor_of_tree (by kernel_rfl)
theorem bQx(a:ad):argsOk "set_iterator.__next__" ⟨[a],[]⟩:=by kernel_rfl
theorem eQr:typeLookup (.type "set") "__len__"=pure (some (.builtin "set.__len__")):=by rw[typeLookup_type,builtinLookup_eq_fast];kernel_rfl
section
variable{prog:aA}{w:aO}{A:aW}{E:ad->ai->Prop}{s:ai}
theorem fQk(ho:s.heap.get? p=some (setOb es ep t))(h:Q false s):aD (aE prog w) A (jc (.ref p)) Q E s:=by
 have d:s.TypeIs (.ref p) "set":=⟨_,ho,rfl⟩;refine aa (wpAny_specialOf d eQr ?_);dsimp only;have z:splitId "set.__len__"=some ("set", "__len__"):=by decide +kernel
 rw[z];refine aa (j3 (b:=true) d (by rw[isSubtype_type];kernel_rfl) ?_)
 rw[if_neg (by decide)]
 refine i5 (λj=>?_) (λj=>absurd (by decide +kernel) j)
 refine aa (hW d ?_);exact ag h
theorem bX4{α:Type}{l:List α}(h:i<l.length):(l[i]::l.eraseIdx i).Perm l:=by
 have e:l=l.take i++l[i]::l.drop (i+1):=by
  rw[<- cu h,b7]
 rw[iu];refine List.perm_middle.symm.trans ?_;rw[<- e]
theorem fQl(hn:n≠0)(h:∀i,i<n->Q i {s with drawn:=s.drawn.bump .order}):aD (aE prog w) A (choose .order n) Q E s:=fun Γ p hΓ=>by
 show Sem.wp _ _ (.choose .order n .pure) _ _ _ _;rw[Sem.wp_choose];exact⟨hn,h _ (lj _ (Nat.pos_of_ne_zero hn))⟩
theorem gQg:∀(n:Nat) (xs:List α) {s:ai}{Q:List α->ai->Prop},xs.length=n->(∀ys d,ys.Perm xs->Q ys {s with drawn:=d})->aD (aE prog w) A (drawOrder n xs) Q E s
 |0,xs,s,Q,hl,h=>by
  have e:=j4.mp hl;subst e;exact ag (h [] s.drawn (eL _))
 |n+1,xs,s,Q,hl,h=>by
  cases xs with
  |nil=>cases hl
  |cons x r =>
   refine aa ?_;have j:(x::r).length≠0:=by simp
   refine fQl j λi hi=>?_;have B:=ah hi;rw[B];refine aa (gQg n ((x::r).eraseIdx i) (by rw[jy hi];simp at hl ⊢;lia) λys d z=>?_)
   refine ag (h _ d ?_);refine(z.cons _).trans ?_;exact bX4 hi
theorem bJz(next:Nat->Nat):∀(fuel k:Nat) (left:List α) (out:Array α),left.length=fuel->(lx next fuel k left out).toList.Perm (out.toList++left)
 |0,k,left,out,hl=>by
  have e:=j4.mp hl;subst e;unfold lx;rw[cR]
 |fuel+1,k,left,out,hl=>by
  unfold lx;have hi:next k%left.length<left.length:=lj _ (by lia)
  rw[ah hi];refine(bJz next fuel (k+1) _ _ (by rw[jy hi];lia)).trans ?_
  rw[ia,cL];exact ix _ (bX4 hi)
theorem bZp(next:Nat->Nat)(xs:Array α):(jj next xs).toList.Perm xs.toList:=by
 have:=bJz next xs.size 0 xs.toList #[] (by simp)
 simpa [jj] using this
def itOb(first:ad)(i:Nat)(p:Addr)(n ep:Nat):Obj:={cls:=.type "set_iterator",dict:=none,data:=.fields #[first,.int i 0,.ref p,.int n 0,.int ep 0],slots:=#[]}
theorem fQm{I:Addr}{Q:Option ad->ai->Prop}{s:ai}(hh:A.in1.handled=none)(h:∀h',(∀b o,s.heap.get? b=some o->h'.get? b=some o)->Q none {s with heap:=h'}) :
  aD (aE prog w) A.in1 (newExc (.type "StopIteration") []>>=λe=>(raiseNew e:Sem Fin)) (λfin s'=>∃r,fin=.done (.ret r)/\aD (aE prog w) A (pure (some r)) Q E s') (λe s'=>aD (aE prog w) A (do if <- isInstance e (.type "StopIteration") then pure none else throw e) Q E s') s:=by
 refine aa ?_;simp only[newExc,newTuple];refine aa (bC ?_ (by size_fits))
 refine aa (jJ (by first|rfl|(simp only[jw];rfl)) ?_)
 refine bC ?_ (by size_fits)
 simp only[raiseNew];refine aa (wpAny_handled ?_);rw[hh];refine aa (ag (wpAny_throw ?_));refine aa (j3 ⟨_,au _ rfl,rfl⟩ isSubtype_stop ?_);exact ag (h _ λb o e=>af _ (af _ e))
theorem aJq{I p:Addr}{es:Array (Int×ad)}{ep:Nat}{t:aR}{first:ad}{i:Nat}{Q:Option ad->ai->Prop}(hp:s.heap.get? p=some (setOb es ep t))(hf:t.fits es.size=true)(hI:s.heap.get? I=some (itOb first i p es.size ep))
  (h:aD (aE prog w) A.in1 (if let .int slot _:=first then do
    match <- setNext p slot.toNat (i:Int).toNat (ep:Int).toNat with
    |some (x,next)=>do
     kU (.ref I) 0 (eJ next)
     kU (.ref I) 1 (eJ ((i:Int)+1))
     ret x
    |none=>do kU (.ref I) 2 .none;raiseNew (<- newExc (.type "StopIteration") [])
   else do
    let some places <- j2 first|iR "internal:set_iterator"
    match places[(i:Int).toNat]? with
    |some (.int place _)=>do
     let x <- setNextDrawn p place.toNat (ep:Int).toNat
     kU (.ref I) 1 (eJ ((i:Int)+1))
     ret x
    |some _=>iR "internal:set_iterator"
    |none=>do kU (.ref I) 0 (eJ 0);kU (.ref I) 2 .none;raiseNew (<- newExc (.type "StopIteration") []))
   (λfin s'=>∃r,fin=.done (.ret r)/\aD (aE prog w) A (pure (some r)) Q E s') (λe s'=>aD (aE prog w) A (do if <- isInstance e (.type "StopIteration") then pure none else throw e) Q E s') s) :
  aD (aE prog w) A (fJ (.ref I)) Q E s:=by
 have d:s.TypeIs (.ref I) "set_iterator":=⟨_,hI,rfl⟩;refine aa (wpAny_attempt (dA d slot_setit_next
  (cU slot_setit_next d bQ5 ?_ (bQx _))))
 simp only[j5,gF,aJ,↓reduceIte,bind_assoc,dq,bne_self_eq_false];refine aa (ag ?_)
 try dsimp only
 refine aa (wpAny_fieldsOf hI rfl ?_);refine aa (wpAny_setEntries_of hp rfl hf ?_);rw[if_neg (by simp)]
 exact h
structure Gives(prog:aA)(w:aO)(A:aW)(I:Addr)(fp:List Addr)(vals:List ad)(St:Nat->bd->Prop):Prop where
 mem:I∈fp
 frame:∀i h h',St i h->(∀b∈fp,∀o,h.get? b=some o->h'.get? b=some o)->St i h'
 item:∀(i:Nat) (s:ai) (v:ad) (Q:Option ad->ai->Prop) (E:ad->ai->Prop),vals[i]?=some v->St i s.heap ->
  (∀h',St (i+1) h'->(∀b o,b≠I->s.heap.get? b=some o->h'.get? b=some o)->Q (some v) {s with heap:=h'})->aD (aE prog w) A (fJ (.ref I)) Q E s
 done:∀(s:ai) (Q:Option ad->ai->Prop) (E:ad->ai->Prop),St vals.length s.heap ->
  (∀h',(∀b o,b≠I->s.heap.get? b=some o->h'.get? b=some o)->Q none {s with heap:=h'})->aD (aE prog w) A (fJ (.ref I)) Q E s
theorem cXc{ep i:Nat}(hp:s.heap.get? p=some (setOb es ep t))(hf:t.fits es.size=true)(hw:w.params.followText "set-order"=true)
  (h:Q (((jj (w.params.setOrder p ep) es)[i]?).map λe=>(e.2,0)) s):aD (aE prog w) A (setNext p (0:Int).toNat (i:Int).toNat (ep:Int).toNat) Q E s:=by
 refine aa (dJ hp rfl hf ?_);refine aa (aa (dD (ag ?_)));have d:(aE prog w).w.params.followText "set-order"=true:=hw;rw[d,if_pos rfl,if_neg (by simp)]
 refine aa (aa (dJ hp rfl hf ?_));refine aa (aa (dD (ag ?_)));rw[d,if_pos rfl];refine aa (dD ?_);refine ag (ag ?_);rw[cr];exact h
theorem gQh(hh:A.in1.handled=none)(hTI:T≠I)(hpI:p≠I)(hl:places.size=vals.length)
  (hpl:∀(j:Nat) (pl:ad),places[j]?=some pl->∃q:Nat,pl=kZ q 0/\∃e,es[q]?=some e/\vals[j]?=some e.2) :
  Gives prog w A I [I,p,T] vals (λi h=>h.get? p=some (setOb es ep t)/\t.fits es.size=true/\h.get? I=some (itOb (.ref T) i p es.size ep)/\∃o c,h.get? T=some o/\o.data=.seq places c) where
 mem:=by simp
 frame:=λi h h' st k=>by
  refine hd λO d=>?_;obtain⟨h1,h2,z,o,c,D,B⟩:=st;refine d ?_;exact⟨k p (by simp) _ h1,h2,k I (by simp) _ z,o,c,k T (by simp) _ D,B⟩
 item:=λi s v Q E U st J=>by
  refine hd λO d=>?_;obtain⟨h1,h2,z,o,c,D,B⟩:=st;refine d ?_;refine aJq h1 h2 z ?_;refine aa (d6 D B ?_);dsimp only;have hi:i<places.size:=by rw[hl];exact(a9.mp U).1
  refine hd λO d=>?_;obtain⟨q,e1,e,e2,Y⟩:=hpl i places[i] (by simp[hi]);refine d ?_
  have N:places[(i:Int).toNat]?=some (kZ q 0):=by rw[cr,<- e1];simp[hi]
  rw[N];have ev:e.2=v:=by rw[U] at Y;exact(aQ Y).symm
  refine aa ?_;refine aa (dJ h1 rfl h2 ?_);dsimp only;rw[if_neg (by simp),cr,e2]
  refine ag ?_;refine aa (c8 z (by show 1<5;decide) λh' g1 g2=>?_)
  rw[ev];refine ag ⟨v,rfl,ag (J h' ⟨?_,h2,?_,o,c,?_,B⟩ λb o' G e=>(g2.2 b G).trans e)⟩
  ·exact(g2.2 p hpI).trans h1
  ·exact g1
  ·exact(g2.2 T hTI).trans D
 done:=λs Q E st J=>by
  refine hd λO d=>?_;obtain⟨h1,h2,z,o,c,D,B⟩:=st;refine d ?_;refine aJq h1 h2 z ?_;refine aa (d6 D B ?_);dsimp only;have N:places[(vals.length:Int).toNat]?=none:=by rw[cr,<- hl];simp
  rw[N];refine aa (c8 z (by show 0<5;decide) λh' g1 g2=>?_)
  refine aa (c8 g1 (by show 2<5;decide) λZ g3 g4=>?_)
  exact fQm (I:=I) hh λL k=>J L λb o' G e=>k b o' ((g4.2 b G).trans ((g2.2 b G).trans e))
theorem gQi{p I:Addr}{es:Array (Int×ad)}{ep:Nat}{t:aR}{vals:List ad}(hh:A.in1.handled=none)(hpI:p≠I)(hw:w.params.followText "set-order"=true)(hv:vals=(jj (w.params.setOrder p ep) es).toList.map (·.2)) :
  Gives prog w A I [I,p] vals (λi h=>h.get? p=some (setOb es ep t)/\t.fits es.size=true/\h.get? I=some (itOb (.int 0 0) i p es.size ep)) where
 mem:=by simp
 frame:=λi h h' st k=>by
  refine hd λN j=>?_;obtain⟨h1,h2,d⟩:=st;refine j ?_;exact⟨k p (by simp) _ h1,h2,k I (by simp) _ d⟩
 item:=λi s v Q E hv' st G=>by
  refine hd λN j=>?_;obtain⟨h1,h2,d⟩:=st;refine j ?_;refine aJq h1 h2 d ?_;refine aa (cXc h1 h2 hw ?_);have L:((jj (w.params.setOrder p ep) es)[i]?).map (λe=>(e.2,0))=some (v,0):=by
   rw[hv,aY,br] at hv';cases q:(jj (w.params.setOrder p ep) es)[i]? with
   |none=>rw[q] at hv';cases hv'
   |some e=>rw[q] at hv';cases hv';rfl
  rw[L];refine aa (c8 d (by show 0<5;decide) λh' g1 g2=>?_)
  refine aa (c8 g1 (by show 1<5;decide) λz g3 D=>?_)
  refine ag ⟨v,rfl,ag (G z ⟨?_,h2,g3⟩ λb o' B e=>(D.2 b B).trans ((g2.2 b B).trans e))⟩;exact(D.2 p hpI).trans ((g2.2 p hpI).trans h1)
 done:=λs Q E st G=>by
  refine hd λN j=>?_;obtain⟨h1,h2,d⟩:=st;refine j ?_;refine aJq h1 h2 d ?_;refine aa (cXc h1 h2 hw ?_);have L:(jj (w.params.setOrder p ep) es)[vals.length]?=none:=by
   rw[hv];simp
  rw[L];refine aa (c8 d (by show 2<5;decide) λz g3 D=>?_)
  exact fQm (I:=I) hh λJ k=>G J λb o' B e=>k b o' ((D.2 b B).trans e)
end
end ST
set_option maxHeartbeats 4000000
namespace ST
open PySem PySem.SetTable PySem.Spec PyProof.Rows
section
variable{prog:aA}{w:aO}{A:aW}{E:ad->ai->Prop}{s:ai}
theorem cQ0{p:Addr}{es:Array (Int×ad)}{ep i sl:Nat}{t:aR}{Q:Option (ad×Nat)->ai->Prop}(hp:s.heap.get? p=some (setOb es ep t))(hf:t.fits es.size=true)(hw:w.params.followText "set-order"=false)(hled:t.led=true)(h1:t.plain=true\/es.size<=1)
  (h:Q (match es[below t.place sl]?,t.place[below t.place sl]? with|some (_,x),some j=>some (x,j+1)|_,_=>none) s):aD (aE prog w) A (setNext p (sl:Int).toNat (i:Int).toNat (ep:Int).toNat) Q E s:=by
 refine aa (dJ hp rfl hf ?_);refine aa (aa (dD (ag ?_)));have z:(aE prog w).w.params.followText "set-order"=false:=hw;rw[z,if_neg cD];refine i5 (λB=>?_) (λ_=>?_)
 ·have d:(!t.plain&&decide (es.size>1))=true:=B;simp only[aV,decide_eq_true_eq] at d;rcases h1 with h1|h1
  ·rw[h1] at d;exact absurd d.1 (by decide)
  ·lia
 ·refine aa ?_;show aD _ _ (if (!t.led && !es.isEmpty)=true then iR "set:maker-not-led" else pure ()) _ _ _
  rw[hled,if_neg (by simp)]
  refine ag ?_;refine ag ?_;rw[cr];exact h
theorem dZn(h:l.length<=1):Ris l:=by
 cases l with
 |nil=>exact .nil
 |cons a l =>
  cases l with
  |nil=>exact bI _ _
  |cons b l=>simp at h
theorem fQn(hr:Ris xs.toList):below xs 0=0:=by
 obtain⟨_,b,_⟩:=aZw hr 0;cases e:below xs 0 with
 |zero=>rfl
 |succ n=>exact absurd (b 0 (by lia)) (b8 _)
theorem fQo(hr:Ris xs.toList){i:Nat}(hi:i<xs.size):below xs (xs[i]+1)=i+1:=by
 obtain⟨G,D,B⟩:=aZw hr (xs[i]+1);have inc:=λa b d j=>by
  have q:=(cb.mp hr) a b (by simpa using eA d j) (by simpa using j) d
  simpa using q
 rcases eg (below xs (xs[i]+1)) (i+1) with h|h|h
 ·have q:=B i (by lia) hi
  rw[cW,dif_pos hi] at q;have z:xs[i]+1<=xs[i]:=q;lia
 ·exact h
 ·have q:=D (i+1) h;have hs:i+1<xs.size:=by lia
  rw[cW,dif_pos hs] at q;have z:xs[i+1]<xs[i]+1:=q
  have:=inc i (i+1) (by lia) hs
  lia
theorem bXs{es:Array (Int×ad)}{t:aR}(hf:t.fits es.size=true):t.place.size=es.size:=by
 unfold la at hf;simp only[aV,beq_iff_eq] at hf;exact hf.1
theorem gQj{p I:Addr}{es:Array (Int×ad)}{ep:Nat}{t:aR}{vals:List ad}(hh:A.in1.handled=none)(hpI:p≠I)(hw:w.params.followText "set-order"=false)(hled:t.led=true)(h1s:t.plain=true\/es.size<=1)(hr:Ris t.place.toList)(hv:vals=es.toList.map (·.2)) :
  Gives prog w A I [I,p] vals (λi h=>h.get? p=some (setOb es ep t)/\t.fits es.size=true/\∃sl:Nat,h.get? I=some (itOb (.int sl 0) i p es.size ep)/\below t.place sl=i) where
 mem:=by simp
 frame:=λi h h' st k=>by
  obtain⟨h1,h2,sl,j,B⟩:=st;exact⟨k p (by simp) _ h1,h2,sl,k I (by simp) _ j,B⟩
 item:=λi s v Q E d st L=>by
  obtain⟨h1,h2,sl,j,B⟩:=st;refine aJq h1 h2 j ?_;refine aa (cQ0 h1 h2 hw hled h1s ?_);have O:=bXs h2;have hi:i<es.size:=by
   have:=(a9.mp d).1
   rw[hv] at this;simpa using this
  have z:i<t.place.size:=by lia
  have Y:es[i].2=v:=by
   rw[hv,aY,br,eO hi] at d;exact aQ d
  have U:es[i]?=some (es[i].1,v):=by rw[eO hi,<- Y]
  rw[B,U,eO z];refine aa (c8 j (by show 0<5;decide) λh' g1 g2=>?_)
  refine aa (c8 g1 (by show 1<5;decide) λD g3 J=>?_)
  exact ag ⟨v,rfl,ag (L D ⟨(J.2 p hpI).trans ((g2.2 p hpI).trans h1),h2,t.place[i]+1,g3,fQo hr z⟩ λb o' G e=>(J.2 b G).trans ((g2.2 b G).trans e))⟩
 done:=λs Q E st L=>by
  obtain⟨h1,h2,sl,j,B⟩:=st;refine aJq h1 h2 j ?_;refine aa (cQ0 h1 h2 hw hled h1s ?_);have nn:es[below t.place sl]?=none:=by
   rw[B,hv];simp
  rw[nn];refine aa (c8 j (by show 2<5;decide) λD g3 J=>?_)
  exact fQm (I:=I) hh λN k=>L N λb o' G e=>k b o' ((J.2 b G).trans e)
theorem gJm{p:Addr}{es:Array (Int×ad)}{ep:Nat}{t:aR}{Q:ad->ai->Prop}(hh:A.in1.handled=none)(hp:s.heap.get? p=some (setOb es ep t))(hf:t.fits es.size=true)(hled:t.led=ledOf w)(hpl:t.plain=true->Ris t.place.toList)(hn:es.size<=300)
  (h:∀I fp vals St h' d,vals.Perm (es.toList.map (·.2))->Gives prog w A I fp vals St->St 0 h'->s.heap.objs.size<=I->(∀b∈fp,b=p\/s.heap.objs.size<=b)->(∀b o,s.heap.get? b=some o->h'.get? b=some o)->Q (.ref I) {s with heap:=h',drawn:=d}) :
  aD (aE prog w) A (iW (.ref p)) Q E s:=by
 have hT:s.TypeIs (.ref p) "set":=⟨_,hp,rfl⟩;have Y:=aC hp;refine wpAny_pyIter_slot hT kM (cU kM hT bZo ?_ (PySem.F.args_set_iter_1 _));unfold cX.«frozenset.__iter__» cX.Frozenset.slot0 slotArgs;simp only[j5,gF,aJ,↓reduceIte,bind_assoc,dq,bne_self_eq_false];refine aa (ag ?_)
 try dsimp only
 refine aa (ag ?_);refine aa (aa (wpAny_setEntries_of hp rfl hf (ag ?_)));refine aa (aa (dJ hp rfl hf ?_));refine aa (aa (dD (ag ?_)));refine ag ?_;have fin:∀(first:ad) (h1:bd) (d:Drawn) (Q':Fin->ai->Prop),h1.get? p=some (setOb es ep t) ->
   Q' (.done (.ret (.ref h1.objs.size))) {s with heap:=h1.push (itOb first 0 p es.size ep),drawn:=d} ->
   aD (aE prog w) A.in1 (do
    let e <- setEpoch p
    let v <- newFields "set_iterator" [first,eJ 0,.ref p,eJ es.size,eJ e]
    ret v) Q' E {s with heap:=h1,drawn:=d}:=by
  intro first h1 d Q' ho hQ';refine aa (wpAny_setEpoch_of ho rfl hf ?_)
  exact aa (bC (ag hQ'))
 refine i5 (λhc=>?_) (λhc=>?_)
 ·refine aa (gQg es.size (aI es.size) (by simp) λys d B=>?_)
  have yl:ys.length=es.size:=by have:=B.length_eq;simpa using this
  have yr:∀q∈ys,q<es.size:=λq hq=>aU.mp (B.mem_iff.mp hq);obtain⟨f1,f2⟩:=cX2 (l:=ys) (f:=λq=>(es[q]?).map (·.2)) (λq hq=>by have:=yr q hq;simp[this])
  refine aa (bC ?_ (by show(ys.map λ(i:Nat)=>eJ i).toArray.size<=sizeLine;rw[aq,ae,yl,aZ];lia))
  generalize N:s.heap.push _=h1;have D:h1.objs.size=s.heap.objs.size+1:=by rw[<- N,cz]
  have old:∀b o,s.heap.get? b=some o->h1.get? b=some o:=λb o e=>by rw[<- N];exact af _ e
  have hTup:h1.get? s.heap.objs.size=some {cls:=.type "tuple",dict:=none,data:=.seq (ys.map λ(i:Nat)=>eJ i).toArray}:=by rw[<- N];exact au _ rfl
  refine fin (.ref s.heap.objs.size) h1 d _ (old p _ hp) ?_;have G:=gQh (prog:=prog) (w:=w) (I:=h1.objs.size) (es:=es) (ep:=ep) (t:=t) (vals:=ys.filterMap λq=>(es[q]?).map (·.2)) (places:=(ys.map λ(i:Nat)=>eJ i).toArray) hh (by rw[D];exact aN (fA _)) (by rw[D];exact aN (cK Y)) (by simp[f1]) (λj pl hj=>by
   have hj':(ys.map λ(i:Nat)=>eJ i)[j]?=some pl:=by simpa using hj
   rw[aY] at hj';cases q:ys[j]? with
   |none=>rw[q] at hj';cases hj'
   |some z =>
    rw[q] at hj';have hz:=yr z (bS q);refine⟨z,(aQ hj').symm,es[z],by simp[hz],?_⟩
    rw[f2 j,q];simp[hz])
  refine⟨_,rfl, "set_iterator",_,⟨_,au _ rfl,rfl⟩,slot_setit_next.lookup,h _ _ _ _ _ d ?_ G ⟨af _ (old p _ hp),hf,au _ rfl,_,_,af _ hTup,rfl⟩ (by rw[D];exact d4 _) (λb Z=>?_) λb o e=>af _ (old b o e)⟩
  ·refine(B.filterMap _).trans ?_;have e:(aI es.size).filterMap (λq=>(es[q]?).map (·.2))=es.toList.map (·.2):=by
    rw[<- cX5 es,List.map_filterMap]
   rw[e]
  ·simp only[aw,fy,or_false] at Z;rcases Z with e|e|e
   ·right;rw[e,D];exact d4 _
   ·exact .inl e
   ·right;rw[e];exact am _
 ·refine aa (ag ?_);refine fin (eJ 0) s.heap s.drawn _ hp ?_;have O:=aN Y;have small:∀b∈[s.heap.objs.size,p],b=p\/s.heap.objs.size<=b:=λb Z=>by
   simp only[aw,fy,or_false] at Z;rcases Z with e|e
   ·right;rw[e];exact am _
   ·exact .inl e
  by_cases hw:w.params.followText "set-order"=true
  ·have G:=gQi (prog:=prog) (es:=es) (ep:=ep) (t:=t) hh O hw rfl;exact⟨_,rfl, "set_iterator",_,⟨_,au _ rfl,rfl⟩,slot_setit_next.lookup,h _ _ _ _ _ s.drawn ((bZp _ _).map _) G ⟨af _ hp,hf,au _ rfl⟩ (am _) small λb o e=>af _ e⟩
  ·have L:=fc.mpr hw;have h1:t.plain=true\/es.size<=1:=by
    have J:¬ ((!(w.params.followText "set-order")&&(!t.plain&&decide (es.size>1)))=true):=hc;rw[L] at J
    by_cases U:t.plain=true
    ·exact .inl U
    ·have:=fc.mpr U
     rw[this] at J;simp at J;exact .inr J
   have hr:Ris t.place.toList:=by
    rcases h1 with h1|h1
    ·exact hpl h1
    ·exact dZn (by rw[aT,bXs hf];exact h1)
   have hl':t.led=true:=by rw[hled];show(!(w.params.followText "set-order"))=true;rw[L];rfl
   have G:=gQj (prog:=prog) (ep:=ep) hh O L hl' h1 hr rfl;exact⟨_,rfl, "set_iterator",_,⟨_,au _ rfl,rfl⟩,slot_setit_next.lookup,h _ _ _ _ _ s.drawn (eL _) G ⟨af _ hp,hf,0,au _ rfl,fQn hr⟩ (am _) small λb o e=>af _ e⟩
theorem eQs{St:Nat->bd->Prop}(G:Gives prog w A.in1 I fp vals St)(hn:vals.length<=300)(hSf:S∉fp)(res:ad) :
  ∀(k i:Nat) (s:ai) (c:Nat),vals.length-i=k->i<=vals.length->St i s.heap->s.heap.get? S=some {cls:=.type "list",dict:=none,data:=.seq (vals.take i).toArray c,slots:=#[]} ->
  (∀h' c',(∀b o,b≠S->b≠I->s.heap.get? b=some o->h'.get? b=some o)->h'.get? S=some {cls:=.type "list",dict:=none,data:=.seq vals.toArray c',slots:=#[]}->R (.ok (.ret res)) {s with heap:=h'}) ->
  fv (aE prog w) A (.builtin "list.extend.loop" ⟨[.ref S,.ref I,res],[]⟩) R s:=by
 have L:S≠I:=λe=>hSf (e▸G.mem);intro k
 induction k with
 |zero =>
  intro i s c hk hi d U hR;have Z:i=vals.length:=by lia
  subst Z;refine b9 jE ?_;rw[bH eP _];refine aa (G.done s _ _ d λh' B=>?_);rw[cA (am _)] at U;exact ag (hR h' c (λb o _ hb e=>B b o hb e) (B S _ L U))
 |succ k ih =>
  intro i s c hk hi d U hR;have z:i<vals.length:=by lia
  have hv:=ah z;refine b9 jE ?_;rw[bH eP _];refine aa (G.item i s _ _ _ hv d λh1 Y k1=>?_);have O:=k1 S _ L U;have szl:=aZ;have j:(vals.take i).toArray.size=i:=by rw[aq,a7];lia
  refine aa ?_;refine eT O rfl (ag ⟨dl eP _,?_⟩) (by rw[j];lia) (by rw[Array.size_push,j];lia)
  have hS2:=cF (bw (·.push vals[i])) O rfl;have et:(vals.take i).toArray.push vals[i]=(vals.take (i+1)).toArray:=by
   rw[cM,hv];simp
  obtain⟨c1,N⟩:∃c1,(h1.update S (bw (·.push vals[i]))).get? S=some {cls:=.type "list",dict:=none,data:=.seq (vals.take (i+1)).toArray c1,slots:=#[]}:=⟨_,by rw[<- et];exact hS2⟩
  refine ih (i+1) {s with heap:=h1.update S (bw (·.push vals[i]))} c1 (by lia) z (G.frame _ _ _ Y λb hb o e=>(bg _ _ (λh:S=b=>hSf (by rw[h];exact hb))).trans e) N λh' c' a1 a2=>?_
  ·exact hR h' c' (λb o J D e=>a1 b o J D ((bg _ _ (bX J)).trans (k1 b o D e))) a2
theorem eQt{p:Addr}{es:Array (Int×ad)}{ep:Nat}{t:aR}{Q:List ad->ai->Prop}(hh:A.handled=none)(hp:s.heap.get? p=some (setOb es ep t))(hf:t.fits es.size=true)(hled:t.led=ledOf w)(hpl:t.plain=true->Ris t.place.toList)(hn:es.size<=300)
  (h:∀vals h' d,vals.Perm (es.toList.map (·.2))->(∀b o,s.heap.get? b=some o->h'.get? b=some o)->Q vals {s with heap:=h',drawn:=d}):aD (aE prog w) A (collect (.ref p)) Q E s:=by
 have N:=aC hp;have hT:∀s':ai,s'.heap.get? p=some (setOb es ep t)->s'.TypeIs (.ref p) "set":=λs' e=>⟨_,e,rfl⟩;refine aa (wpAny_runValue (b9 PySem.F.entry_proto_collect ?_));rw[bH PySem.F.plain_proto_collect _];refine aa (bC ?_);refine ag ⟨dl j6 _,b9 PySem.F.entry_list_iadd ?_⟩;rw[bH j6 _];show aD _ A.in1 (jd (.ref s.heap.objs.size) (.ref p) (.ref s.heap.objs.size)) _ _ _;generalize J:s.heap.push _=h1;have old:∀b o,s.heap.get? b=some o->h1.get? b=some o:=λb o e=>by rw[<- J];exact af _ e
 have L:h1.objs.size=s.heap.objs.size+1:=by rw[<- J,cz]
 have hS1:h1.get? s.heap.objs.size=some {cls:=.type "list",dict:=none,data:=.seq #[] 0,slots:=#[]}:=by rw[<- J];exact au _ rfl
 have D:=old p _ hp;refine aa (hW (hT {s with heap:=h1} D) ?_)
 have e1:jR (.ref s.heap.objs.size) (.ref p)=false:=by simp[jR,fI N]
 rw[if_neg (by rw[e1];decide)]
 refine aa (gJm hh D hf hled hpl hn λI fp vals St h2 d B G Z hI hfp k2=>?_)
 have hvl:vals.length=es.size:=by have:=B.length_eq;simpa using this
 have hI':=hI;have hSI:s.heap.objs.size≠I:=by lia
 refine aa (bF (fQk (k2 p _ D) ?_));have O:s.heap.objs.size∉fp:=λz=>by
  have q:=hfp _ z;have q':=q;rcases q' with e|e
  ·exact absurd e (fI N)
  ·rw[L] at e;exact absurd e (Nat.not_succ_le_self _)
 refine i5 (λ_=>?_) (λhc=>absurd (by decide +kernel) hc)
 refine aa (en ?_);refine aa ?_;have Y:=k2 _ _ hS1;refine aa (eT Y rfl ?_);have U:=cF (bw (·.push bJ)) Y rfl;refine eT U rfl ?_
 have hS4:=cF (bw (·.pop)) U rfl;refine ag ⟨dl eP _,?_⟩;refine eQs G (by lia) O _ (vals.length-0) 0 _ _ rfl (bN _) (G.frame _ _ _ Z λb hb o e=>?_) hS4 λh' c' a1 a2=>?_
 ·have j:b≠s.heap.objs.size:=λz=>O (z▸hb);exact(bg _ _ (bX j)).trans ((bg _ _ (bX j)).trans e)
 ·refine aa (wpAny_load a2 ?_)
  have:=h vals h' d B λb o e=>?_
  ·exact ag this
  ·have j:=aN (aC e);have hbI:=aN (bB (aC e) (aH (by rw[L];exact d4 _) hI'))
   exact a1 b o j hbI ((bg _ _ (bX j)).trans ((bg _ _ (bX j)).trans (k2 b o (old b o e))))
theorem collectT{p:Addr}{es:Array (Int×ad)}{ep:Nat}{t:aR}{Q:List ad->ai->Prop}(hh:A.handled=none)(hp:s.heap.get? p=some (setOb es ep t))(hf:t.fits es.size=true)(hled:t.led=ledOf w)(hpl:t.plain=true->es.size<=1)(hn:es.size<=300)
  (h:∀vals h' d,vals.Perm (es.toList.map (·.2))->(∀b o,s.heap.get? b=some o->h'.get? b=some o)->Q vals {s with heap:=h',drawn:=d}):aD (aE prog w) A (collect (.ref p)) Q E s :=
 eQt hh hp hf hled (λz=>dZn (by rw[aT,bXs hf];exact hpl z)) hn h
end
end ST
namespace KS
open PySem PySem.W PyProof.Rows
def TS(h:bd)(v:ad)(d:List Str):Prop:=∃b items,v=.ref b/\gV h b items/\HT.SAre items.toList d
section
variable{prog:aA}{w:aO}{A:aW}{E:ad->ai->Prop}{s:ai}
theorem eXk:∀{us vs:List ad}{d e:List Str}(i:Nat) {fin:Bool},HT.SAre us d->HT.SAre vs e->fin=decide (d.length<e.length)->Q (HT.lexS d e) s->KatLex prog w A true fin Q (us.zip vs) i s
 |_,_,_,_,i,fin,.nil,.nil,hf,h=>by subst hf;exact kat_nil h
 |_,_,_,_,i,fin,.nil,.cons _ _,hf,h=>by
  subst hf;rw[f8];rw[HT.lexS_nil_cons] at h;exact kat_nil (by simpa using h)
 |_,_,_,_,i,fin,.cons _ _,.nil,hf,h=>by
  subst hf;rw[gR];rw[HT.lexS_cons_nil] at h;exact kat_nil (by simpa using h)
 |_,_,x::d,y::e,i,fin,.cons ⟨t,j⟩ p,.cons ⟨u,hu⟩ q,hf,h=>by
  subst j hu;rw[cP];rw[HT.lexS_cons] at h;refine kat_cons (jx x t y u _ _ _ _ ?_);refine kat_go (λz=>kat_yes (eXk (i+1) p q (by subst hf;simp) (by rw[if_pos (by simpa using z)] at h;exact h))) λz=>kat_no ?_
  rw[if_neg (by simpa using z)] at h
  cases i with
  |zero=>exact oneLt_str h
  |succ i =>
   exact kat_one _ _ (k4 (h))
theorem dZo(hx:TS s.heap x d)(hy:TS s.heap y e)(h:Q (HT.lexS d e) s):aD (aE prog w) A (keyLt' (tuples' true) x y) Q E s:=by
 obtain⟨b,items,rfl,⟨o,G,_,n,hd⟩,p⟩:=hx;obtain⟨N,j,rfl,⟨J,z,_,L,hd2⟩,p2⟩:=hy;refine kat_lt G hd z hd2 (eXk 0 p p2 ?_ h);have D:=p.len;have B:=p2.len;simp only[aT] at D B;rw[D,B]
theorem cJx(hu:A.units<bR)(hx:TS s.heap x d)(hy:TS s.heap y e)(h:Q (HT.lexS d e) s):aD (aE prog w) A (keyLt' general' x y) Q E s:=by
 obtain⟨b,items,rfl,t1,p⟩:=hx;obtain⟨B,j,rfl,z,p2⟩:=hy;exact kat_one _ _ (HT.lt_tupStrs t1 z p p2 hu (h))
theorem gQk(hu:A.units<bR)(hx:TS s.heap x d)(hy:TS s.heap y e)(h:Q (HT.lexS d e) s):aD (aE prog w) A (keyLt' oneType' x y) Q E s:=by
 obtain⟨b,items,rfl,t1,p⟩:=hx;obtain⟨Y,j,rfl,O,p2⟩:=hy;rw[keyLt'_oneType,oneLt'_eq];simp only[if_true];obtain⟨⟨cls,dd,data,sl⟩,G,L,n,hd⟩:=id t1;obtain⟨⟨N,J,data2,B⟩,D,z,U,hd2⟩:=id O;simp only at L hd z hd2;subst L hd z hd2;refine aa (wpAny_cRoomFor hu ?_);refine aa (iG ⟨_,G,rfl⟩ dR (jr dR ⟨_,G,rfl⟩ fO (fC _ _) (HT.tuple_lt_strs b Y items j n U dd J sl B d e p p2) ⟨G,D,?_⟩));exact cJ h
theorem cQ1:∀{vs:List ad}{ds:List (List Str)}{Q:List (Option ad)->ai->Prop},bc (TS s.heap) vs ds->(∀fs:List (Option ad),bc (λf d=>match f with|none=>d=[]|some v=>∃x r t,d=x::r/\v=.str x t) fs ds->Q fs s)->aD (aE prog w) A (vs.mapM firstOfTuple') Q E s
 |_,_,_,.nil,h=>by rw[lg];exact ag (h [] .nil)
 |_,_,Q,.cons p q,h=>by
  obtain⟨b,items,rfl,⟨o,j,D,n,hd⟩,sa⟩:=p;rw[kW];refine aa ?_;rw[kas_first_eq];refine aa (Looks.here ((Looks.ld j).andThen .now) ?_)
  rw[D,if_neg (by first|decide|simp)]
  refine aa (kt j hd (ag ?_));refine aa (cQ1 q λfs pf=>ag (h _ (.cons ?_ pf)));obtain⟨items⟩:=items;have sa:=sa;have e:(Array.mk items)[0]?=items[0]?:=by simp
  rw[e];cases sa with
  |nil=>rfl
  |cons z _=>obtain⟨t,B⟩:=z;exact⟨_,_,t,rfl,B⟩
theorem fQp(p:bc (TS s.heap) vs ds)(hne:vs≠[])(h:∀κ,κ=tuples' true\/κ=general'\/κ=oneType'->Q κ s):aD (aE prog w) A (keyKind' vs.toArray) Q E s:=by
 rw[kat_kind_eq,f9,map_eq_pure_bind];refine aa (aa (cQ1 p λfs pf=>ag ?_))
 by_cases j:(fs.toArray.all λx=>x.isSome)=true
 ·rw[if_pos j];refine aa (en ?_);rw[oneTypeOnly'_eq];have J:∀v∈(fs.toArray.filterMap id).toList,∃x t,v=.str x t:=λv J=>by
   simp only[Array.toList_filterMap,dW,id] at J;obtain⟨f,hf,rfl⟩:=J
   have:∀{fs:List (Option ad)}{ds:List (List Str)},bc (λf d=>match f with|none=>d=[]|some v=>∃x r t,d=x::r/\v=.str x t) fs ds->some v∈fs->∃x t,v=.str x t:=by
    intro fs ds pf
    induction pf with
    |nil=>intro hm;cases hm
    |cons z _ L =>
     intro hm;rcases aw.mp hm with e|hm
     ·subst e;obtain⟨x,r,t,_,e⟩:=z;exact⟨x,t,e⟩
     ·exact L hm
   exact this pf hf
  have B:(fs.toArray.filterMap id).toList≠[]:=by
   have O:fs.length=vs.length:=by have:=bW p;have:=bW pf;lia
   cases fs with
   |nil=>exact absurd (bD (by simpa using O.symm)) hne
   |cons f fs =>
    simp only[List.all_toArray,jS,aV] at j;obtain⟨v,rfl⟩:=bn.mp j.1;simp
  generalize (fs.toArray.filterMap id)=gs at J B;obtain⟨gs⟩:=gs;rw[f9,map_eq_pure_bind];refine aa (aa (aa (kas_mapM (r:=dg "str") gs (λv D Z N=>?_) (ag ?_))))
  ·obtain⟨x,t,rfl⟩:=J v D;exact ag N
  ·obtain⟨g,gr,rfl⟩:∃g gr,gs=g::gr:=by
    cases gs with
    |nil=>exact absurd rfl B
    |cons g gr=>exact⟨g,gr,rfl⟩
   have h0:(List.map (λ_=>dg "str") (g::gr)).toArray[0]?=some (dg "str"):=by simp
   have G:((List.map (λ_=>dg "str") (g::gr)).toArray.all λx=>x==dg "str")=true:=by
    simp only[List.all_toArray,dr,ba];intro _ _;simp
   rw[h0];simp only[G,if_true];exact ag (ag (h _ (.inl rfl)))
 ·rw[if_neg j]
  by_cases h1:((fs.toArray[0]?.bind id).isSome)=true
  ·rw[if_pos h1];exact ag (h _ (.inr (.inl rfl)))
  ·rw[if_neg h1,oneTypeOnly'_eq,f9,map_eq_pure_bind];refine aa (aa (aa (kas_mapM (r:=dg "tuple") vs (λv D Z N=>?_) (ag ?_))))
   ·have:∀{vs:List ad}{ds:List (List Str)},bc (TS s.heap) vs ds->v∈vs->∃d,TS s.heap v d:=by
     intro vs ds pp
     induction pp with
     |nil=>intro hm;cases hm
     |cons z _ L =>
      intro hm;rcases aw.mp hm with e|hm
      ·subst e;exact⟨_,z⟩
      ·exact L hm
    obtain⟨d,b,items,rfl,⟨o,U,Y,_⟩,_⟩:=this p D;refine Looks.here (?_) N
    rw[<- Y];exact(Looks.ld U).andThen .now
   ·generalize (List.map (λ_=>dg "tuple") vs).toArray=ts;cases ts[0]? with
    |none=>exact ag (ag (by first|exact h _ (.inr (.inl rfl))|exact h _ (.inr (.inr rfl))))
    |some t =>
     by_cases h2:(ts.all (· ==t))=true
     ·simp only[h2,if_true];exact ag (ag (h _ (.inr (.inr rfl))))
     ·simp only[h2,if_false];exact ag (ag (h _ (.inr (.inl rfl))))
end
end KS
namespace HT
open PySem
theorem ltS_tot(h:ltS a b=false)(hne:a≠b):ltS b a=true:=by
 refine decide_eq_true ?_;have h1:=of_decide_eq_false h;refine aK λh2=>hne ?_;have e:=List.le_antisymm (List.not_lt.mp h2) (List.not_lt.mp h1);cases a;cases b
 congr 1
 exact j8.mp e
theorem ltS_tr(h:ltS a b=true)(h':ltS b c=true):ltS a c=true:=decide_eq_true (List.lt_trans (of_decide_eq_true h) (of_decide_eq_true h'))
theorem ltS_ir(a:Str):ltS a a=false:=decide_eq_false (List.lt_irrefl _)
theorem ltS_as(h:ltS a b=true):ltS b a=false:=decide_eq_false (List.lt_asymm (of_decide_eq_true h))
theorem lexS_tot:∀{a b:List Str},lexS a b=false->a≠b->lexS b a=true
 |[],[],_,h=>absurd rfl h
 |[],_::_,h,_=>by cases h
 |_::_,[],_,_=>rfl
 |x::xs,y::ys,h,d=>by
  rw[lexS_cons] at h ⊢
  by_cases e:x=y
  ·rw[if_pos e] at h;rw[if_pos e.symm];exact lexS_tot h λz=>d (by rw[e,z])
  ·rw[if_neg e] at h;rw[if_neg λz=>e z.symm];exact ltS_tot h e
theorem lexS_as:∀{a b:List Str},lexS a b=true->lexS b a=false
 |[],[],h=>by cases h
 |[],_::_,_=>rfl
 |_::_,[],h=>by cases h
 |x::xs,y::ys,h=>by
  rw[lexS_cons] at h ⊢
  by_cases e:x=y
  ·rw[if_pos e] at h;rw[if_pos e.symm];exact lexS_as h
  ·rw[if_neg e] at h;rw[if_neg (λz=>e z.symm)];exact ltS_as h
theorem lexS_tr:∀{a b c:List Str},lexS a b=true->lexS b c=true->lexS a c=true
 |[],[],_,h,_=>by cases h
 |[],_::_,[],_,h=>by cases h
 |[],_::_,_::_,_,_=>rfl
 |_::_,[],_,h,_=>by cases h
 |_::_,_::_,[],_,h=>by cases h
 |x::xs,y::ys,z::zs,h,h'=>by
  rw[lexS_cons] at h h' ⊢
  by_cases e:x=y
  ·subst e;rw[if_pos rfl] at h
   by_cases d:x=z
   ·rw[if_pos d] at h' ⊢;exact lexS_tr h h'
   ·rw[if_neg d] at h' ⊢;exact h'
  ·rw[if_neg e] at h
   by_cases d:y=z
   ·subst d;rw[if_neg e];exact h
   ·rw[if_neg d] at h';have hxz:=ltS_tr h h'
    have:x≠z:=by rintro rfl;rw[ltS_ir] at hxz;cases hxz
    rw[if_neg this];exact hxz
end HT
namespace KS
open PySem PySem.W PyProof.Rows
theorem paired_idx{F:α->β->Prop}{l:List α}{m:List β}(p:bc F l m)(a:α)(b:β):∀(idx:List Nat),(∀i∈idx,i<l.length)->bc F (idx.map λi=>l.getD i a) (idx.map λi=>m.getD i b)
 |[],_=>.nil
 |i::idx,h=>by
  refine .cons ?_ (paired_idx p a b idx λj z=>h j (ak _ z));have hi:=h i aj;obtain⟨y,d,hf⟩:=L2.Paired.get' p (ah hi);show F (l.getD i a) (m.getD i b);rw[ay,ay,d,ah hi];exact hf
theorem TS.keep(t:TS h v d)(k:∀b o,h.get? b=some o->o.cls=.type "tuple"->h'.get? b=some o):TS h' v d:=by
 obtain⟨b,items,e,⟨o,z,j,r⟩,p⟩:=t;exact⟨b,items,e,⟨o,k b o z j,j,r⟩,p⟩
theorem eXl{ds:List (List Str)}(nd:ds.Nodup):Ord (λi j=>HT.lexS (ds.getD i []) (ds.getD j [])) ds.length where
 tot:=λi j hi B d h=>HT.lexS_tot h λz=>by
  rw[ay,ay,ah hi,ah B] at z;exact d ((jW nd).mp z)
 asy:=λi j h=>HT.lexS_as h
 tr:=λi j k h h'=>HT.lexS_tr h h'
theorem cJy(v:Vd ds.length p)(h:Asc (λi j=>HT.lexS (ds.getD i []) (ds.getD j [])) p ds.length):(p.toList.map λi=>ds.getD i []).Pairwise (λa b=>HT.lexS a b=true)/\(p.toList.map λi=>ds.getD i []).Perm ds:=by
 constructor
 ·rw[bu,cb];intro i j hi D z;have B:i<p.size:=by simpa using hi
  have d:j<p.size:=by simpa using D
  have:=h i j z (by rw[<- v.sz];exact d)
  have J:at' p i=p.toList[i]:=by simp[at',cW,B]
  have G:at' p j=p.toList[j]:=by simp[at',cW,d]
  rw[<- J,<- G];exact this
 ·refine(v.pm.map _).trans (List.Perm.of_eq ?_);apply dY
  ·simp
  ·intro i h1 h2;simp only[gq,gS,ay];rw[ah h2]
   rfl
section
variable{prog:aA}{w:aO}{A:aW}{E:ad->ai->Prop}{s:ai}
theorem sort_tups(hu:A.units<bR)(ho:s.heap.get? a=some (bK "list" vs.toArray n))(hp:bc (TS s.heap) vs ds)(nd:ds.Nodup)(h64:vs.length<64)
  (h:∀ (idx:List Nat) (h':bd) (c:Nat),idx.Perm (aI vs.length)->(idx.map λi=>ds.getD i []).Pairwise (λa b=>HT.lexS a b=true)->(idx.map λi=>ds.getD i []).Perm ds->h'.get? a=some (bK "list" (idx.map λi=>vs.getD i bJ).toArray c) ->
   (∀b o,b≠a->s.heap.get? b=some o->h'.get? b=some o)->P (.done (.ret .none)) {s with heap:=h'}) :
  aD (aE prog w) A (cX.«list.sort» ⟨[.ref a],[]⟩) P E s:=by
 have ha:=aC ho;have hl:=bW hp;rw[list_sort_plain];refine aa (kt ho rfl ?_);refine aa (gI ho rfl ?_ (by rw[aq,aZ];lia) (bN _))
 obtain⟨e1,G⟩:∃e1,(s.heap.update a (bw λ_=>(#[]))).get? a=some (bK "list" #[] e1):=⟨_,eU ho λ_=>#[]⟩;refine aa (iT G rfl ?_);refine aa (wpAny_newTuple ?_ (by rw[aZ];lia))
 refine aa (iO ?_ (bN _));refine bF ?_;have sb:=bV s.heap a (bw λ_=>(#[]));generalize hg:s.heap.update a (bw λ_=>(#[]))=h1 at G sb;generalize hm:(h1.push (bK "tuple" vs.toArray 0)).push (bK "list" #[] 0)=h2;have k2:∀b o,h1.get? b=some o->h2.get? b=some o:=λb o e=>by rw[<- hm];exact af _ (af _ e)
 have kk:=λb o U e=>k2 b o ((sb.2 b U).trans e);have B:=k2 _ _ G;dsimp only;have fin:∀(idx:List Nat),idx.Perm (aI vs.length)->(idx.map λi=>ds.getD i []).Pairwise (λa b=>HT.lexS a b=true)->(idx.map λi=>ds.getD i []).Perm ds->P (.done (.ret .none)) {s with heap:=h2.update a (bw λ_=>(idx.map λi=>vs.getD i bJ).toArray)}:=λidx Z Y i3=>by
  have s2:=bV h2 a (bw λ_=>(idx.map λi=>vs.getD i bJ).toArray);exact h idx _ _ Z Y i3 (eU B λ_=>(idx.map λi=>vs.getD i bJ).toArray) λb o U e=>(s2.2 b U).trans (kk b o U e)
 by_cases z:vs.toArray.size<2
 ·rw[if_pos z,if_pos z];refine aa (ag ?_);rw[StateT.run_pure];refine aa (ag ?_);refine aa (iT B rfl ?_);have e0:((bh (gU.mk' general' (vs.toArray.zip vs.toArray) #[] 7 none)).map (·.2))=((aI vs.length).map λi=>vs.getD i bJ).toArray:=by
   apply j8.mp;simp only[Array.toList_map,Array.toList_zip];apply dY
   ·simp
   ·intro i h1 h2;simp at h1 h2 ⊢;rw[ah h2]
    rfl
  rw[e0];refine aa (gI B rfl ?_ (bN _) (by simp only[aq,ae,di];rw[aZ];lia))
  simp only[bne_self_eq_false,aJ,if_false];have hlen:ds.length<2:=by rw[<- hl];simpa using z
  have ed:((aI vs.length).map λi=>ds.getD i [])=ds:=by
   apply dY
   ·simp[hl]
   ·intro i h1 h2;simp only[gq,gS,ay];rw[ah h2]
    rfl
  refine ag (fin _ (eL _) ?_ (by rw[ed]))
  rw[ed]
  match ds,hlen with
  |[],_=>exact .nil
  |[x],_=>exact bI _ _
 ·rw[if_neg z,if_neg z];have O:2<=vs.length:=by simpa using z
  have J:=L2.Paired.imp (λv d t=>t.keep λb o e c=>kk b o (by
   rintro rfl;rw[ho] at e;have e':=aQ e;rw[<- e'] at c;have c':=c;injection c' with c''
   exact absurd c'' (by decide)) e) hp
  refine aa (fQp J (by rintro rfl;simp at O) fun κ hκ=>?_)
  obtain⟨v1,v2⟩:=eQp (eXl nd) (by lia)
  have ans:∀i j (C:Bool->ai->Prop),i<ds.length->j<ds.length->C (HT.lexS (ds.getD i []) (ds.getD j [])) {s with heap:=h2}->kas_ask prog w A κ vs i j C {s with heap:=h2}:=by
   intro i j C hi hj c;have g:∀k,k<ds.length->TS h2 (vs.getD k bJ) (ds.getD k []):=λk hk=>by
    have N:k<vs.length:=by lia
    obtain⟨d,hd,t⟩:=L2.Paired.get' J (ah N);rw[ay,ay,hd,ah N];exact t
   rcases hκ with rfl|rfl|rfl
   ·exact dZo (g i hi) (g j hj) c
   ·exact cJx hu (g i hi) (g j hj) c
   ·exact gQk hu (g i hi) (g j hj) c
  have tree:(kas_sort vs.length).kasWp (kas_ask prog w A κ vs) (λp s'=>s'={s with heap:=h2}/\p=run (λi j=>HT.lexS (ds.getD i []) (ds.getD j [])) (kas_sort ds.length)) {s with heap:=h2}:=by
   rw[hl];exact eXj ans _ (eQq (eXl nd) (by lia)) ⟨rfl,rfl⟩
  refine aa (cO (kat_run (Q:=λD s'=>∃p:Array Nat,bh D=p.map (kas_item (vs.toArray.zip vs.toArray))/\failedOf D=none/\s'={s with heap:=h2}/\p=run (λi j=>HT.lexS (ds.getD i []) (ds.getD j [])) (kas_sort ds.length)) rfl O h64 (λp D s' _ a2 a3 a4=>⟨p,a2,a3,a4.1,a4.2⟩) tree) ?_ λ_ _ e=>e)
  rintro⟨⟨⟩,D⟩ s' ⟨p,har,hf,rfl,rfl⟩;have L:=kat_snds rfl har;rw[L];obtain⟨Z,Y⟩:=cJy v1 v2;refine aa (iT B rfl ?_);refine aa (gI B rfl ?_ (bN _) (by
   simp only[aq,ae,aT]
   have:=v1.sz
   rw[aZ];lia))
  rw[hf];simp only[bne_self_eq_false,aJ,if_false];exact ag (fin _ (by rw[hl];exact v1.pm) Z Y)
end
end KS
namespace ST
open PySem PySem.SetTable PySem.Spec PyProof.Rows
def restr{prog:aA}{w:aO}{κ:Type}(D:SetKd prog w κ)(W:κ->ad->Prop):SetKd prog w κ where
 pk:=D.pk
 is:=λh k v=>D.is h k v/\W k v
 I:=λh a es ep t=>D.I h a es ep t/\∀e∈es.toList,∃k,D.is h k e.2/\W k e.2
 inj:=λa b=>D.inj a.1 b.1
 obj:=λx=>D.obj x.1
 fits:=λx=>D.fits x.1
 few:=λz _ _ _ _ _ _ x p nd hp=>D.few z x.1 (L2.Paired.mapP p λ_ _ q=>q.1) nd hp
 fresh:=λh=>⟨D.fresh h,λe he=>by simp at he⟩
 keepIs:=λx kp=>⟨D.keepIs x.1 kp,x.2⟩
 keepI:=λx e kp=>⟨D.keepI x.1 e kp,λe he=>let ⟨k,h1,h2⟩:=x.2 e he;⟨k,D.keepIs h1 kp,h2⟩⟩
 add:=λ{A E s a es ep t k x Q} hu hI hx hn h=>by
  refine D.add hu hI.1 hx.1 hn λh' tk es' ep' t' added q1 q2 q3 q4 q5=>?_;have kp:=aXx (D.obj hI.1) q2;have up:∀e∈es.toList,∃k,D.is h' k e.2/\W k e.2:=λe he=>let ⟨k,h1,h2⟩:=hI.2 e he;⟨k,D.keepIs h1 kp,h2⟩
  rcases q5 with⟨r1,r2,e,he,r3⟩|⟨r1,⟨hh,r2⟩,r3⟩
  ·obtain⟨k',z1,z2⟩:=hI.2 e he
   have:=D.inj r3 z1
   subst this;exact h h' tk es' ep' t' added ⟨q1,by rw[r2];exact up⟩ q2 q3 q4 (.inl ⟨r1,r2,e,he,r3,z2⟩)
  ·refine h h' tk es' ep' t' added ⟨q1,λe he=>?_⟩ q2 q3 q4 (.inr ⟨r1,⟨hh,r2⟩,λ⟨e,he,z⟩=>r3 ⟨e,he,z.1⟩⟩);rcases aw.mp (r2.mem_iff.mp he) with z|z
   ·subst z;exact⟨k,D.keepIs hx.1 kp,hx.2⟩
   ·exact up e z
end ST
namespace L2
open PySem PySem.Spec PyProof.Rows
def stO(p:Addr)(es:Array (Int×ad))(ep:Nat)(t:aR):HO:=.ext λh=>h.get? p=some (ST.setOb es ep t)
abbrev PV(K:Fg)(H:Hp):ad->V×List Str->Prop:=λv p=>RelV p.1 v/\dT K dS H p.1 p.2
def dSt(w:aO)(K:Fg):Dn (List (List Str)):=λH v ms=>∃p es ep t ps,v=.ref p/\H p=some (stO p es ep t)/\t.fits es.size=true/\t.led=ST.ledOf w/\(t.plain=true->es.size<=1)/\bc (PV K H) (es.toList.map (·.2)) ps/\ms=ps.map (·.2)
theorem Inv.drawn{σ:St}(I:Inv X pins σ H s)(d:_):Inv X pins σ H {s with drawn:=d} :=
 ⟨I.ok,I.os,I.bare,I.base,I.loc,I.cell,I.free,I.freeC,I.pin,I.hok,I.len⟩
section
variable{X:Cx}
theorem gQl{K:Fg}{H:Hp}{h:bd}{P:aA}{w:aO}:∀{es:List (Int×ad)}{ms:List (List Str)},bc (λ(e:Int×ad) k=>ST.TK P w h k e.2/\∃x,RelV x e.2/\dT K dS H x k) es ms->∃ps,bc (PV K H) (es.map (·.2)) ps/\ms=ps.map (·.2)
 |_,_,.nil=>⟨[],.nil,rfl⟩
 |_,_,.cons ⟨_,x,r,d⟩ q=>by
  obtain⟨ps,h1,h2⟩:=gQl q;exact⟨(x,_)::ps,.cons ⟨r,d⟩ h1,by rw[h2];rfl⟩
end
section
variable{X:Cx}
theorem gQm{K:Fg}{pins:List (Addr×Obj)}{σ:St}{H:Hp}{s:ai}(I:Inv X pins σ H s)(hK:X.K=K){h':bd}(k:∀b o,s.heap.get? b=some o->h'.get? b=some o):∀{vs:List ad}{ps:List (V×List Str)},bc (PV K H) vs ps->bc (KS.TS h') vs (ps.map (·.2))
 |_,_,.nil=>.nil
 |_,_,.cons ⟨r,d⟩ q=>by
  refine .cons ?_ (gQm I hK k q);obtain⟨b,xs,e,B,pp⟩:=d;rw[e] at r;cases r;rw[<- hK] at B;obtain⟨j,D,⟨o,G,z⟩,_⟩:=I.tuple B;exact⟨b,j.toArray,rfl,⟨o,k b o G,z⟩,bQu pp D⟩
theorem cXd:∀(ps:List (V×List Str)) (i:Nat),(ps.map (·.2)).getD i []=(ps.getD i (V.non,[])).2
 |[],i=>by simp
 |p::ps,0=>by simp
 |p::ps,i+1=>by simpa using cXd ps i
theorem bXt{K:Fg}{H:Hp}:∀{vs:List ad}{zs:List (V×List Str)},bc (PV K H) vs zs->Vals (zs.map (·.1)) vs/\bc (dT K dS H) (zs.map (·.1)) (zs.map (·.2))
 |_,_,.nil=>⟨.nil,.nil⟩
 |_,_,.cons ⟨r,d⟩ q=>⟨.cons r (bXt q).1,.cons d (bXt q).2⟩
theorem dZp:∀{xs:List V}{us:List ad}{ds:List Str},bc (dS H) xs ds->Vals xs us->ku us ds
 |_,_,_,.nil,.nil=>.nil
 |_,_,_,.cons p q,.cons r t=>by
  cases p;obtain⟨k,rfl⟩:=r;exact .cons _ k (dZp q t)
theorem bXu:∀{us:List ad}{ds:List Str},ku us ds->Vals (ds.map V.str) us/\bc (dS H) (ds.map V.str) ds
 |_,_,.nil=>⟨.nil,.nil⟩
 |_,_,.cons y t r=>⟨.cons ⟨t,rfl⟩ (bXu (H:=H) r).1,.cons rfl (bXu r).2⟩
theorem eXm:∀{l:List Str},sortedS l=true->l.Nodup->l.Pairwise λa b=>HT.ltS a b=true
 |[],_,_=>.nil
 |[x],_,_=>bI _ _
 |x::y::l,h,nd=>by
  have h':(!ltCps y.cps.toList x.cps.toList&&risingS y l)=true:=h;rw[aV] at h';have B:=eXm (l:=y::l) h'.2 (bA.mp nd).2;have d:HT.ltS x y=true:=by
   have e:HT.ltS y x=false:=by
    have:=h'.1
    rw[cY] at this;rw[ltCps_eq] at this;exact this
   exact HT.ltS_tot e λz=>(bA.mp nd).1 (z▸aj)
  refine aM.mpr ⟨λz j=>?_,B⟩;rcases aw.mp j with rfl|j
  ·exact d
  ·exact HT.ltS_tr d ((aM.mp B).1 z j)
end
def cutS(z:Str)(lo hi:Option Int):Str:=if ((cj lo hi 1 z.length).length==z.length)=true then z else ⟨((cj lo hi 1 z.length).filterMap (z.cps[·]?)).toArray⟩
def rSlS:V->Option Int->Option Int->Hp->VK->Prop:=λx lo hi H Q=>∃z,x=.str z/\z.length<=1000000/\Q (.str (cutS z lo hi)) H
theorem sl_str:SlR X rSlS:=by
 intro pins s σ H x v O N lo hi sl Q I J hs pl pu h;obtain⟨z,rfl,U,q⟩:=h;obtain⟨t,rfl⟩:=J;refine⟨"str",_,PySem.F.slot_str_getitem.lookup,typeIs_str _ _ _,?_⟩;have go:∀(l u:Option (Int×Tok)),l.map (·.1)=lo->u.map (·.1)=hi->s.heap.IsSlice sl l u none->aD (aE X.prog X.w) X.A (hU (.str z t) (.ref sl)) (EP X pins σ Q) X.xe s:=λl u hl hu L=>by
  refine wpAny_getItem_str_slice L rfl ?_;unfold sliceMade slicePicked;simp only[Option.map_none,jY,beq_self_eq_true,lh,hl,hu];unfold cutS at q
  by_cases c:((cj lo hi 1 z.length).length==z.length)=true
  ·rw[if_pos c] at q ⊢;exact⟨.str z,H,I,⟨t,rfl⟩,q⟩
  ·rw[if_neg c] at q ⊢;refine⟨?_,.str _,H,I.tok _,⟨_,rfl⟩,q⟩;have h1:=PyProof.Rows.indices_len_le lo hi z.length;have h2:((cj lo hi 1 z.length).filterMap (z.cps[·]?)).length<=(cj lo hi 1 z.length).length:=List.length_filterMap_le _ _;show((cj lo hi 1 z.length).filterMap (z.cps[·]?)).toArray.size<=_;rw[aq,aZ];lia
 obtain⟨o,d,B,hd⟩:=hs;cases pl with
 |none =>
  cases pu with
  |none=>exact go none none rfl rfl ⟨o,d,B,hd⟩
  |int j D=>exact go none (some (j,D)) rfl rfl ⟨o,d,B,hd⟩
 |int i G =>
  cases pu with
  |none=>exact go (some (i,G)) none rfl rfl ⟨o,d,B,hd⟩
  |int j D=>exact go (some (i,G)) (some (j,D)) rfl rfl ⟨o,d,B,hd⟩
end L2
set_option maxHeartbeats 1000000
namespace L2
open PySem PySem.Spec PyProof.Rows
inductive D where
 |non|bl (b:Bool)|int (i:Int)|str (x:Str)|ty (n:String)|ref (a:Addr)|tup (xs:List D)|lst (xs:List D)
abbrev Am:=Addr->Prop
structure Keep(M:Am)(H:Hp)(M':Am)(H':Hp):Prop where
 st:∀a o,¬ M a->H a=some o->H' a=some o
 nm:∀a,¬ M a->H a≠none->¬ M' a
def Xo:HO->Prop
 |.ext _=>True
 |.ins _ _ _=>True
 |_=>False
inductive DO where
 |lst (xs:List D)|dk (kvs:List (Key×D))|dt (kvs:List (List Key×D))
 |tb (pos:Pos) (qual:Str)
 |ex (f:Am->Hp->Addr->Prop) (hk:∀M M' H H' a,Keep M H M' H'->H' a=H a->f M H a->f M' H' a) (hl:∀M H a,f M H a->∃g,H a=some g/\Xo g)
abbrev Sto:=Addr->Option DO
abbrev Gm:=List (Option D)
def supd(S:Sto)(a:Addr)(o:DO):Sto:=λb=>if b=a then some o else S b
def sdel(S:Sto)(a:Addr):Sto:=λb=>if b=a then none else S b
theorem supd_same:supd S a o a=some o:=by unfold supd;rw[if_pos rfl]
theorem supd_ne(h:b≠a):supd S a o b=S b:=by unfold supd;rw[if_neg h]
theorem bQy:sdel S a a=none:=by unfold sdel;rw[if_pos rfl]
theorem bQz(h:b≠a):sdel S a b=S b:=by unfold sdel;rw[if_neg h]
def TupAt(K:Fg)(M:Am)(H:Hp)(a:Addr)(xs:List V):Prop:=(¬ M a/\Rd H a (.tup xs))\/SqT K (λ_=>none) a xs
theorem TupAt.sq{K:Fg}(h:TupAt K M H a xs):SqT K H a xs:=by
 rcases h with h|(h|⟨o,h⟩)|h
 ·exact .inl h.2
 ·cases h
 ·cases h
 ·exact .inr h
def LstAt(K:Fg)(M:Am)(H:Hp)(a:Addr)(xs:List V):Prop:=(¬ M a/\Rd H a (.lst xs))\/SqL K (λ_=>none) a xs
theorem LstAt.sq{K:Fg}(h:LstAt K M H a xs):SqL K H a xs:=by
 rcases h with h|(h|⟨o,h⟩)|h
 ·exact .inl h.2
 ·cases h
 ·cases h
 ·exact .inr h
mutual
def RepV(K:Fg)(M:Am)(H:Hp):D->V->Prop
 |.non,v=>v=.non
 |.bl b,v=>v=.bl b
 |.int i,v=>v=.int i
 |.str x,v=>v=.str x
 |.ty n,v=>v=.ty n
 |.ref a,v=>v=.ref a
 |.tup ds,v=>∃a xs,v=.ref a/\TupAt K M H a xs/\RepL K M H ds xs
 |.lst ds,v=>∃a xs,v=.ref a/\LstAt K M H a xs/\RepL K M H ds xs
def RepL(K:Fg)(M:Am)(H:Hp):List D->List V->Prop
 |[],xs=>xs=[]
 |d::ds,xs=>∃v vs,xs=v::vs/\RepV K M H d v/\RepL K M H ds vs
end
theorem Rd.live(r:Rd H a u):H a≠none:=by
 rcases r with r|⟨o,r⟩ <;> rw[r] <;> exact λz=>by cases z
theorem Keep.rd(k:Keep M H M' H'){a:Addr}{u:HO}(hm:¬ M a)(r:Rd H a u):Rd H' a u:=by
 rcases r with r|⟨o,r⟩
 ·exact .inl (k.st a _ hm r)
 ·exact .inr ⟨o,k.st a _ hm r⟩
theorem TupAt.keep{K:Fg}(t:TupAt K M H p us)(x:Keep M H M' H'):TupAt K M' H' p us:=by
 rcases t with⟨hm,r⟩|t
 ·exact .inl ⟨x.nm p hm r.live,x.rd hm r⟩
 ·exact .inr t
theorem LstAt.keep{K:Fg}(t:LstAt K M H p us)(x:Keep M H M' H'):LstAt K M' H' p us:=by
 rcases t with⟨hm,r⟩|t
 ·exact .inl ⟨x.nm p hm r.live,x.rd hm r⟩
 ·exact .inr t
mutual
theorem RepV.keep{K:Fg}{M M':Am}{H H':Hp}(k:Keep M H M' H'):∀{d:D}{v:V},RepV K M H d v->RepV K M' H' d v
 |.non,_,h=>h
 |.bl _,_,h=>h
 |.int _,_,h=>h
 |.str _,_,h=>h
 |.ty _,_,h=>h
 |.ref _,_,h=>h
 |.tup ds,v,h=>by
  unfold RepV at h ⊢;refine hd λz j=>?_;obtain⟨a,xs,e,t,l⟩:=h;refine j ?_;exact⟨a,xs,e,t.keep k,RepL.keep k l⟩
 |.lst ds,v,h=>by
  unfold RepV at h ⊢;refine hd λz j=>?_;obtain⟨a,xs,e,t,l⟩:=h;refine j ?_;exact⟨a,xs,e,t.keep k,RepL.keep k l⟩
theorem RepL.keep{K:Fg}{M M':Am}{H H':Hp}(k:Keep M H M' H'):∀{ds:List D}{xs:List V},RepL K M H ds xs->RepL K M' H' ds xs
 |[],_,h=>h
 |d::ds,xs,h=>by
  unfold RepL at h ⊢;refine hd λz j=>?_;obtain⟨v,vs,e,r,l⟩:=h;refine j ?_;exact⟨v,vs,e,RepV.keep k r,RepL.keep k l⟩
end
section
variable{K:Fg}{M:Am}{H:Hp}
theorem RepL.length:∀{ds:List D}{xs:List V},RepL K M H ds xs->xs.length=ds.length
 |[],_,h=>by rw[h];rfl
 |d::ds,xs,h=>by
  obtain⟨v,vs,rfl,_,l⟩:=h;simp[RepL.length l]
theorem RepL.nil:RepL K M H [] []:=by rfl
theorem RepL.cons{d:D}{ds:List D}{v:V}{vs:List V}(r:RepV K M H d v)(l:RepL K M H ds vs):RepL K M H (d::ds) (v::vs):=⟨v,vs,rfl,r,l⟩
theorem RepL.app:∀{ds es:List D}{xs ys:List V},RepL K M H ds xs->RepL K M H es ys->RepL K M H (ds++es) (xs++ys)
 |[],es,xs,ys,h,h'=>by rw[h];exact h'
 |d::ds,es,xs,ys,h,h'=>by
  obtain⟨v,vs,rfl,r,l⟩:=h;exact RepL.cons r (RepL.app l h')
theorem RepL.get:∀{ds:List D}{xs:List V}{i:Nat}{d:D},RepL K M H ds xs->ds[i]?=some d->∃v,xs[i]?=some v/\RepV K M H d v
 |[],_,_,_,_,e=>by simp at e
 |d::ds,xs,0,e,h,he=>by
  obtain⟨v,vs,rfl,r,l⟩:=h;simp at he;subst he;exact⟨v,rfl,r⟩
 |d::ds,xs,i+1,e,h,he=>by
  obtain⟨v,vs,rfl,r,l⟩:=h;refine hd λz j=>?_;obtain⟨w,h1,h2⟩:=RepL.get l (by simpa using he);refine j ?_
  exact⟨w,by simpa using h1,h2⟩
theorem RepL.get'{i:Nat}(h:RepL K M H ds xs)(e:xs[i]?=some v):∃d,ds[i]?=some d/\RepV K M H d v:=by
 have hl:=h.length;have hi:i<xs.length:=by
  rcases bU i xs.length with z|z
  ·exact z
  ·rw[bL z] at e;cases e
 have j:ds[i]?=some ds[i]:=ah (by lia)
 refine hd λG B=>?_;obtain⟨w,h1,h2⟩:=h.get j;refine B ?_;rw[e] at h1;cases h1;exact⟨_,j,h2⟩
theorem RepL.take:∀{ds:List D}{xs:List V}(n:Nat),RepL K M H ds xs->RepL K M H (ds.take n) (xs.take n)
 |_,_,0,_=>by simpa using RepL.nil
 |[],_,n+1,h=>by subst h;simpa using RepL.nil
 |d::ds,xs,n+1,h=>by
  obtain⟨v,vs,rfl,r,l⟩:=h;simpa using RepL.cons r (RepL.take n l)
theorem RepL.drop:∀{ds:List D}{xs:List V}(n:Nat),RepL K M H ds xs->RepL K M H (ds.drop n) (xs.drop n)
 |_,_,0,h=>by simpa using h
 |[],_,n+1,h=>by subst h;simpa using RepL.nil
 |d::ds,xs,n+1,h=>by
  obtain⟨v,vs,rfl,r,l⟩:=h;simpa using RepL.drop n l
theorem RepL.set(r:RepV K M H d v):∀{ds:List D}{xs:List V}(i:Nat),RepL K M H ds xs->RepL K M H (ds.set i d) (xs.set i v)
 |[],_,i,h=>by subst h;simpa using RepL.nil
 |e::ds,xs,0,h=>by
  obtain⟨w,vs,rfl,_,l⟩:=h;simpa using RepL.cons r l
 |e::ds,xs,i+1,h=>by
  obtain⟨w,vs,rfl,q,l⟩:=h;simpa using RepL.cons q (RepL.set r i l)
theorem RepL.erase:∀{ds:List D}{xs:List V}(i:Nat),RepL K M H ds xs->RepL K M H (ds.eraseIdx i) (xs.eraseIdx i)
 |[],_,i,h=>by subst h;simpa using RepL.nil
 |e::ds,xs,0,h=>by
  obtain⟨w,vs,rfl,_,l⟩:=h;simpa using l
 |e::ds,xs,i+1,h=>by
  obtain⟨w,vs,rfl,q,l⟩:=h;simpa using RepL.cons q (RepL.erase i l)
theorem RepL.one(h:RepL K M H [d] xs):∃v,xs=[v]/\RepV K M H d v:=by
 obtain⟨v,vs,rfl,r,l⟩:=h;subst l;exact⟨v,rfl,r⟩
theorem RepL.two(h:RepL K M H [d,e] xs):∃v w,xs=[v,w]/\RepV K M H d v/\RepV K M H e w:=by
 obtain⟨v,vs,rfl,r,l⟩:=h;obtain⟨w,rfl,j⟩:=l.one;exact⟨v,w,rfl,r,j⟩
end
def mt(S:Sto)(F:Am):Am:=λa=>S a≠none\/F a
abbrev cdO(c:Addr)(oc:Obj):HO:=.ext λh=>h.get? c=some oc
def TbOk(M:Am)(H:Hp)(pos:Pos)(qual:Str)(ps:Array ad):Prop:=TriplesOk ps.toList/\(codeAmong pos ps.toList=none \/
 ∃c oc,codeAmong pos ps.toList=some (.ref c)/\¬ M c/\H c=some (cdO c oc)/\∃vs t,oc.data=.fields vs/\vs[1]?=some (.str qual t))
theorem TbOk.keep(k:Keep M H M' H'){pos:Pos}{qual:Str}{ps:Array ad}(h:TbOk M H pos qual ps):TbOk M' H' pos qual ps:=by
 refine hd λD j=>?_;obtain⟨h1,h2⟩:=h;refine j ?_;refine⟨h1,h2.imp id λ⟨c,oc,B,m,d,r⟩=>⟨c,oc,B,k.nm c m (by rw[d];exact λz=>by cases z),k.st c _ m d,r⟩⟩
def RepO(K:Fg)(M:Am)(H:Hp)(a:Addr):DO->Prop
 |.lst ds=>∃xs,H a=some (.lst xs)/\RepL K M H ds xs
 |.dk kvs=>∃ks,H a=some (.dK ks)/\bc (λ(p:Key×V) (q:Key×D)=>p.1=q.1/\RepV K M H q.2 p.2) ks kvs
 |.dt kvs=>∃ks,H a=some (.dT ks)/\bc (λ(p:List Key×V) (q:List Key×D)=>p.1=q.1/\RepV K M H q.2 p.2) ks kvs
 |.tb pos qual=>∃ps,H a=some (.tbl ps)/\TbOk M H pos qual ps
 |.ex f _ _=>f M H a
theorem RepO.live{K:Fg}(h:RepO K M H a o):H a≠none:=by
 cases o with
 |ex f d hl=>obtain⟨g,e,_⟩:=hl _ _ _ h;rw[e];exact λz=>by cases z
 |_=>obtain⟨xs,e,_⟩:=h;rw[e];exact λz=>by cases z
theorem RepO.keep{K:Fg}(k:Keep M H M' H'){a:Addr}{o:DO}(e:H' a=H a)(h:RepO K M H a o):RepO K M' H' a o:=by
 cases o with
 |lst ds=>obtain⟨xs,d,l⟩:=h;exact⟨xs,e.trans d,l.keep k⟩
 |dk j=>obtain⟨xs,d,l⟩:=h;exact⟨xs,e.trans d,Paired.imp (λ_ _ z=>⟨z.1,z.2.keep k⟩) l⟩
 |dt j=>obtain⟨xs,d,l⟩:=h;exact⟨xs,e.trans d,Paired.imp (λ_ _ z=>⟨z.1,z.2.keep k⟩) l⟩
 |tb pos qual=>obtain⟨xs,d,l⟩:=h;exact⟨xs,e.trans d,l.keep k⟩
 |ex f B hl=>exact B _ _ _ _ _ k e h
def Clt:HO->Prop
 |.lst _=>True
 |.ext _=>True
 |_=>False
structure Rp(K:Fg)(F:Am)(S:Sto)(H:Hp):Prop where
 obj:∀a o,S a=some o->RepO K (mt S F) H a o
 frm:∀a,F a->(∃u,H a=some u/\Clt u)/\S a=none
structure Ext(S:Sto)(H:Hp)(S':Sto)(H':Hp):Prop where
 keep:∀a o,S a=none->H a=some o->H' a=some o
 live:∀a,H a≠none->H' a≠none
 new:∀a,S' a≠none->S a≠none\/H a=none
theorem Ext.refl(S:Sto)(H:Hp):Ext S H S H:=⟨λ_ _ _ h=>h,λ_ h=>h,λ_ h=>.inl h⟩
theorem Ext.sn(x:Ext S H S' H'){a:Addr}(h:S a=none)(h':H a≠none):S' a=none:=by
 cases e:S' a with
 |none=>rfl
 |some o =>
  rcases x.new a (by rw[e];exact λz=>by cases z) with z|z
  ·exact absurd h z
  ·exact absurd z h'
theorem Ext.trans(x:Ext S H S1 H1)(y:Ext S1 H1 S2 H2):Ext S H S2 H2 :=
 ⟨λa o h h'=>y.keep a o (x.sn h (by rw[h'];exact λz=>by cases z)) (x.keep a o h h'),λa h=>y.live a (x.live a h),λa h=>by
  rcases y.new a h with z|z
  ·exact x.new a z
  ·refine .inr (aK λn=>x.live a n z)⟩
theorem Ext.same(s:Same H H'):Ext S H S H' where
 keep:=λa o _ h=>s a o h
 live:=λa h=>by
  cases e:H a with
  |none=>exact absurd e h
  |some o =>
   rw[s a o e];exact λz=>by cases z
 new:=λ_ h=>.inl h
theorem Ext.kp(x:Ext S H S' H'):Keep (mt S F) H (mt S' F) H':=⟨λa o h e=>x.keep a o (aK λn=>h (.inl n)) e,λa h e=>λz=>by
 rcases z with z|z
 ·rcases x.new a z with y|y
  ·exact h (.inl y)
  ·exact e y
 ·exact h (.inr z)⟩
section
variable{K:Fg}{F:Am}{S S':Sto}{H H':Hp}
theorem RepV.ext(h:RepV K (mt S F) H d v)(x:Ext S H S' H'):RepV K (mt S' F) H' d v:=h.keep x.kp
theorem RepL.ext(h:RepL K (mt S F) H ds vs)(x:Ext S H S' H'):RepL K (mt S' F) H' ds vs:=h.keep x.kp
theorem Rp.same(r:Rp K F S H)(s:Same H H'):Rp K F S H' where
 obj:=λa o h=>by
  have q:=r.obj a o h;have e:H' a=H a:=by
   cases z:H a with
   |none=>exact absurd z q.live
   |some u=>exact s a u z
  exact q.keep (Ext.same s).kp e
 frm:=λa h=>by
  refine hd λj d=>?_;obtain⟨⟨zs,e,ct⟩,h2⟩:=r.frm a h;refine d ?_;exact⟨⟨zs,s a _ e,ct⟩,h2⟩
theorem Ext.write(h:S a≠none):Ext S H (supd S a o) (upd H a u) where
 keep:=λb j h1 h2=>by
  have ne:b≠a:=by rintro rfl;exact h h1
  rw[upd_ne ne];exact h2
 live:=λb d=>by
  by_cases e:b=a
  ·subst e;rw[aQ9];exact λz=>by cases z
  ·rw[upd_ne e];exact d
 new:=λb d=>by
  by_cases e:b=a
  ·subst e;exact .inl h
  ·rw[supd_ne e] at d;exact .inl d
theorem Rp.write(r:Rp K F S H)(h:S a≠none)(q:RepO K (mt (supd S a o) F) (upd H a u) a o):Rp K F (supd S a o) (upd H a u) where
 obj:=λb d hb=>by
  by_cases e:b=a
  ·subst e;rw[supd_same] at hb;cases hb;exact q
  ·rw[supd_ne e] at hb;exact(r.obj b d hb).keep (Ext.write h).kp (upd_ne e)
 frm:=λb hb=>by
  have e:b≠a:=by rintro rfl;exact h (r.frm b hb).2
  rw[upd_ne e,supd_ne e];exact r.frm b hb
theorem Rp.sn(r:Rp K F S H){a:Addr}(h:H a=none):S a=none:=by
 cases e:S a with
 |none=>rfl
 |some o=>exact absurd h (r.obj a o e).live
theorem Ext.mk'(h:H a=none):Ext S H (supd S a o) (upd H a u) where
 keep:=λb j h1 h2=>by
  have ne:b≠a:=by rintro rfl;rw[h] at h2;cases h2
  rw[upd_ne ne];exact h2
 live:=λb d=>by
  have ne:b≠a:=by rintro rfl;exact d h
  rw[upd_ne ne];exact d
 new:=λb d=>by
  by_cases e:b=a
  ·subst e;exact .inr h
  ·rw[supd_ne e] at d;exact .inl d
theorem Rp.mk'(r:Rp K F S H)(h:H a=none)(q:RepO K (mt (supd S a o) F) (upd H a u) a o):Rp K F (supd S a o) (upd H a u) where
 obj:=λb d hb=>by
  by_cases e:b=a
  ·subst e;rw[supd_same] at hb;cases hb;exact q
  ·rw[supd_ne e] at hb;exact(r.obj b d hb).keep (Ext.mk' h).kp (upd_ne e)
 frm:=λb hb=>by
  have e:b≠a:=by
   rintro rfl;refine hd λz j=>?_;obtain⟨⟨zs,e,_⟩,_⟩:=r.frm b hb;refine j ?_;rw[h] at e;cases e
  rw[upd_ne e,supd_ne e];exact r.frm b hb
theorem Ext.less(h:∀ a o,S' a=some o->S a=some o):Ext S H S' H:=⟨λ_ _ _ e=>e,λ_ e=>e,λa e=>.inl λz=>by
 cases q:S' a with
 |none=>exact e q
 |some o=>rw[h a o q] at z;cases z⟩
theorem Rp.less(r:Rp K F S H)(h:∀a o,S' a=some o->S a=some o):Rp K F S' H where
 obj:=λa o e=>(r.obj a o (h a o e)).keep (Ext.less h).kp rfl
 frm:=λa e=>⟨(r.frm a e).1,by
  cases q:S' a with
  |none=>rfl
  |some o=>have:=h a o q;rw[(r.frm a e).2] at this;cases this⟩
theorem dZq:∀b o,sdel S a b=some o->S b=some o:=λb o e=>by
 by_cases z:b=a
 ·subst z;rw[bQy] at e;cases e
 ·rwa [bQz z] at e
end
def look(g:Gm)(i:Nat)(k:D->Prop):Prop:=match i with
 |0=>match g with
  |some d::_=>k d
  |_=>False
 |n+1=>match g with
  |_::g=>look g n k
  |[]=>False
def RepG(K:Fg)(M:Am)(H:Hp):Gm->St->Prop
 |[],σ=>σ=[]
 |none::g,σ=>∃v τ,σ=v::τ/\RepG K M H g τ
 |some d::g,σ=>∃v τ,σ=some v::τ/\RepV K M H d v/\RepG K M H g τ
theorem RepG.keep{K:Fg}(k:Keep M H M' H'):∀{g:Gm}{σ:St},RepG K M H g σ->RepG K M' H' g σ
 |[],_,h=>h
 |none::g,_,⟨v,τ,e,r⟩=>⟨v,τ,e,RepG.keep k r⟩
 |some d::g,_,⟨v,τ,e,q,r⟩=>⟨v,τ,e,q.keep k,RepG.keep k r⟩
theorem RepG.ext{K:Fg}(h:RepG K (mt S F) H g σ)(x:Ext S H S' H'):RepG K (mt S' F) H' g σ:=h.keep x.kp
theorem RepG.look{K:Fg}:∀{g:Gm}{σ:St}{i:Nat},RepG K M H g σ->look g i k->∃v d,σ[i]?=some (some v)/\RepV K M H d v/\k d
 |[],_,0,_,h=>dU h
 |[],_,_+1,_,h=>dU h
 |none::_,_,0,_,h=>dU h
 |some d::g,_,0,⟨v,τ,e,q,r⟩,h=>⟨v,d,by rw[e];rfl,q,h⟩
 |some d::g,_,i+1,⟨v,τ,e,q,r⟩,h=>by
  refine hd λG j=>?_;obtain⟨u,B,z,h1⟩:=RepG.look r h;refine j ?_;exact⟨u,B,by rw[e];simpa using z,h1⟩
 |none::g,_,i+1,⟨v,τ,e,r⟩,h=>by
  refine hd λG j=>?_;obtain⟨u,B,z,h1⟩:=RepG.look r h;refine j ?_;exact⟨u,B,by rw[e];simpa using z,h1⟩
theorem RepG.set{K:Fg}(q:RepV K M H d v):∀{g:Gm}{σ:St}(i:Nat),RepG K M H g σ->RepG K M H (g.set i (some d)) (σ.set i (some v))
 |[],_,_,h=>by cases h;rfl
 |none::g,_,0,⟨w,τ,e,r⟩=>by subst e;exact⟨v,τ,rfl,q,r⟩
 |some _::g,_,0,⟨w,τ,e,_,r⟩=>by subst e;exact⟨v,τ,rfl,q,r⟩
 |none::g,_,i+1,⟨w,τ,e,r⟩=>by subst e;exact⟨w,_,rfl,RepG.set q i r⟩
 |some _::g,_,i+1,⟨w,τ,e,z,r⟩=>by subst e;exact⟨w,_,rfl,z,RepG.set q i r⟩
abbrev DK:=D->Sto->Prop
abbrev ED:=Gm->Sto->DK->Prop
abbrev TD:=Gm->Sto->(Bool->Sto->Prop)->Prop
abbrev AD:=Gm->Sto->(List D->Sto->Prop)->Prop
structure EndsD where
 nx:Gm->Sto->Prop
 rt:DK
 bk:Gm->Sto->Prop:=λ_ _=>False
 ct:Gm->Sto->Prop:=λ_ _=>False
abbrev SD:=EndsD->Gm->Sto->Prop
def upE(K:Fg)(t:ED):TE:=fun σ H Q=>∃F S Γ QD,Rp K F S H/\RepG K (mt S F) H Γ σ/\t Γ S QD/\∀v d H' S',Ext S H S' H'->Rp K F S' H'->RepV K (mt S' F) H' d v->QD d S'->Q v H'
theorem upE.el{K:Fg}{p:Prop}(h:upE K t σ H Q)(k:∀F S Γ QD,Rp K F S H->RepG K (mt S F) H Γ σ->t Γ S QD->(∀v d H' S',Ext S H S' H'->Rp K F S' H'->RepV K (mt S' F) H' d v->QD d S'->Q v H')->p):p:=by
 refine hd λB j=>?_;obtain⟨F,S,Γ,QD,h0,h1,h2,z⟩:=h;refine j ?_;exact k F S Γ QD h0 h1 h2 z
def upT(K:Fg)(t:TD):TT:=fun σ H Q=>∃F S Γ QD,Rp K F S H/\RepG K (mt S F) H Γ σ/\t Γ S QD/\∀b H' S',Ext S H S' H'->Rp K F S' H'->QD b S'->Q b H'
theorem upT.el{K:Fg}{p:Prop}(h:upT K t σ H Q)(k:∀F S Γ QD,Rp K F S H->RepG K (mt S F) H Γ σ->t Γ S QD->(∀b H' S',Ext S H S' H'->Rp K F S' H'->QD b S'->Q b H')->p):p:=by
 refine hd λz d=>?_;obtain⟨F,S,Γ,QD,h0,h1,h2,j⟩:=h;refine d ?_;exact k F S Γ QD h0 h1 h2 j
def upA(K:Fg)(t:AD):TA:=fun σ H Q=>∃F S Γ QD,Rp K F S H/\RepG K (mt S F) H Γ σ/\t Γ S QD/\∀vs ds H' S',Ext S H S' H'->Rp K F S' H'->RepL K (mt S' F) H' ds vs->QD ds S'->Q vs H'
theorem upA.el{K:Fg}{p:Prop}(h:upA K t σ H Q)(k:∀F S Γ QD,Rp K F S H->RepG K (mt S F) H Γ σ->t Γ S QD->(∀vs ds H' S',Ext S H S' H'->Rp K F S' H'->RepL K (mt S' F) H' ds vs->QD ds S'->Q vs H')->p):p:=by
 refine hd λz d=>?_;obtain⟨F,S,Γ,QD,h0,h1,h2,j⟩:=h;refine d ?_;exact k F S Γ QD h0 h1 h2 j
structure CnS(K:Fg)(F:Am)(S:Sto)(H:Hp)(E:EndsD)(D':Ends):Prop where
 nx:∀Γ' S' σ' H',Ext S H S' H'->Rp K F S' H'->RepG K (mt S' F) H' Γ' σ'->E.nx Γ' S'->D'.nx σ' H'
 rt:∀v d H' S',Ext S H S' H'->Rp K F S' H'->RepV K (mt S' F) H' d v->E.rt d S'->D'.rt v H'
 bk:∀Γ' S' σ' H',Ext S H S' H'->Rp K F S' H'->RepG K (mt S' F) H' Γ' σ'->E.bk Γ' S'->D'.bk σ' H'
 ct:∀Γ' S' σ' H',Ext S H S' H'->Rp K F S' H'->RepG K (mt S' F) H' Γ' σ'->E.ct Γ' S'->D'.ct σ' H'
theorem CnS.ext{K:Fg}(c:CnS K F S H E D')(x:Ext S H S1 H1):CnS K F S1 H1 E D' :=
 ⟨fun Γ' S' σ' H' y=>c.nx Γ' S' σ' H' (x.trans y),λv d H' S' y=>c.rt v d H' S' (x.trans y),fun Γ' S' σ' H' y=>c.bk Γ' S' σ' H' (x.trans y),fun Γ' S' σ' H' y=>c.ct Γ' S' σ' H' (x.trans y)⟩
def upS(K:Fg)(t:SD):TS:=λD' σ H=>∃F S Γ E,Rp K F S H/\RepG K (mt S F) H Γ σ/\t E Γ S/\CnS K F S H E D'
theorem upS.el{K:Fg}{p:Prop}(h:upS K t D' σ H)(k:∀F S Γ E,Rp K F S H->RepG K (mt S F) H Γ σ->t E Γ S->CnS K F S H E D'->p):p:=by
 refine hd λz d=>?_;obtain⟨F,S,Γ,E,h0,h1,h2,j⟩:=h;refine d ?_;exact k F S Γ E h0 h1 h2 j
structure PD(K:Fg)(X:Cx)(e:Expr)(t:ED):Prop where
 o:PE X e (upE K t)
structure PTD(K:Fg)(X:Cx)(e:Expr)(t:TD):Prop where
 o:PT X e (upT K t)
structure PAD(K:Fg)(X:Cx)(es:List Expr)(t:AD):Prop where
 o:PA X es (upA K t)
structure PSD(K:Fg)(X:Cx)(st:Stmt)(t:SD):Prop where
 o:PS X st (upS K t)
structure PSsD(K:Fg)(X:Cx)(st:List Stmt)(t:SD):Prop where
 o:PSs X st (upS K t)
section
variable{X:Cx}{K:Fg}
theorem PD.of(h:PE X e te)(i:∀σ H Q,upE K t σ H Q->te σ H Q):PD K X e t:=⟨λpins s σ H Q I q=>h pins s σ H Q I (i σ H Q q)⟩
theorem PTD.of(h:PT X e te)(i:∀σ H Q,upT K t σ H Q->te σ H Q):PTD K X e t:=⟨λpins s σ H Q I q=>h pins s σ H Q I (i σ H Q q)⟩
theorem PAD.of(h:PA X e te)(i:∀σ H Q,upA K t σ H Q->te σ H Q):PAD K X e t:=⟨λpos pins s σ H Q I q=>h pos pins s σ H Q I (i σ H Q q)⟩
theorem PSD.of(h:PS X e te)(i:∀D' σ H,upS K t D' σ H->te D' σ H):PSD K X e t:=⟨λpins s σ H D' I q=>h pins s σ H D' I (i D' σ H q)⟩
theorem PSsD.of(h:PSs X e te)(i:∀D' σ H,upS K t D' σ H->te D' σ H):PSsD K X e t:=⟨λpins s σ H D' I q=>h pins s σ H D' I (i D' σ H q)⟩
def dVar(i:Nat):ED:=fun Γ S Q=>look Γ i λd=>Q d S
def dC(d:D):ED:=λ_ S Q=>Q d S
theorem dv(i:Nat){x:Str}{pos:Pos}(hN:X.N[i]?=some x:=by rfl)(hv:Vis X.env.scope x:=by first|exact aS rfl|exact fQ (aS rfl)|exact fQ (fQ rfl))(hd:(x == "__debug__")=false:=by decide)
  (hcd:(x == "__classdict__")=false:=by decide):PD K X (.Name x pos) (dVar i):=.of (fJ4 hN hv hd hcd) fun σ H Q j=>j.el λF S Γ QD r g h c=>by
 obtain⟨v,d,e,q,z⟩:=g.look h;exact⟨v,e,c v d H S (Ext.refl _ _) r q z⟩
theorem up_c(h:∀M H,RepV K M H d v):∀σ H Q,upE K (dC d) σ H Q->tC v σ H Q:=fun σ H Q j=>j.el λF S Γ QD r g q c=>c v d H S (Ext.refl _ _) r (h _ _) q
theorem aQ6:PD K X (.Constant (.int i) j pos) (dC (.int i)):=.of eX6 (up_c λ_ _=>by rfl)
theorem e_bl:PD K X (.Constant (.bool b) j pos) (dC (.bl b)):=.of gJ0 (up_c λ_ _=>by rfl)
theorem aX6:PD K X (.Constant .none j pos) (dC .non):=.of fJ5 (up_c λ_ _=>by rfl)
theorem aXy:PD K X (.Constant (.str x) j pos) (dC (.str x)):=.of fJ6 (up_c λ_ _=>by rfl)
def Cn(K:Fg)(F:Am)(S:Sto)(H:Hp)(QD:DK)(Q:VK):Prop:=∀v d H' S',Ext S H S' H'->Rp K F S' H'->RepV K (mt S' F) H' d v->QD d S'->Q v H'
abbrev R2D:=D->D->Sto->DK->Prop
def OpD(K:Fg)(r:R2)(rd:R2D):Prop:=∀F S H d e x y Q QD,Rp K F S H->RepV K (mt S F) H d x->RepV K (mt S F) H e y->rd d e S QD->Cn K F S H QD Q->r x y H Q
def dOp(rd:R2D)(ta tb:ED):ED:=fun Γ S Q=>ta Γ S λx S1=>tb Γ S1 λy S2=>rd x y S2 Q
theorem eQu(h:OpD K r rd):∀σ H Q,upE K (dOp rd ta tb) σ H Q->tOp r (upE K ta) (upE K tb) σ H Q:=fun σ H Q D=>D.el λF S Γ QD r g q c =>
 ⟨F,S,Γ,_,r,g,q,λx d H1 Z B L v1 O=>⟨F,Z,Γ,_,L,g.ext B,O,λy e H2 Y j J v2 N=>h F Y H2 d e x y Q QD J (v1.ext j) v2 N λv z H3 U G=>c v z H3 U (B.trans (j.trans G))⟩⟩
theorem e_op(ho:OpR X (eX op) r)(h:OpD K r rd)(ha:PD K X a ta)(hb:PD K X b tb):PD K X (.BinOp a op b pos) (dOp rd ta tb):=.of (gJ9 ho ha.o hb.o) (eQu h)
theorem eQv(ho:OpR X (cq op) r)(h:OpD K r rd)(ha:PD K X a ta)(hb:PD K X b tb)(hm:eE op b=false):PD K X (.Compare a [op] [b] pos) (dOp rd ta tb):=.of (eJo ho ha.o hb.o hm) (eQu h)
def aXq(t:ED):TD:=fun Γ S Q=>t Γ S λd S1=>∃b,d=.bl b/\Q b S1
theorem gQn(h:OpD K r rd):∀ σ H Q,upT K (aXq (dOp rd ta tb)) σ H Q->eJp (tOp r (upE K ta) (upE K tb)) σ H Q:=fun σ H Q q=>eQu h σ H _ (by
 refine hd λJ D=>?_;obtain⟨F,S,Γ,QD,r,g,q,c⟩:=q;refine D ?_;refine⟨F,S,Γ,_,r,g,q,λv d H1 G j z v1 ⟨b,e,B⟩=>?_⟩;subst e;exact⟨b,v1,c b H1 G j z B⟩)
theorem aXs(ho:OpR X (cq op) r)(h:OpD K r rd)(ha:PD K X a ta)(hb:PD K X b tb)(hm:eE op b=false):PTD K X (.Compare a [op] [b] pos) (aXq (dOp rd ta tb)):=.of (eJq ho ha.o hb.o hm) (gQn h)
end
end L2
set_option maxHeartbeats 4000000
namespace L2
open PySem PySem.Spec PyProof.Rows
section
variable{K:Fg}{F:Am}{S:Sto}{H:Hp}{QD:DK}{Q:VK}
theorem Cn.here(c:Cn K F S H QD Q)(r:Rp K F S H){d:D}{v:V}(h:RepV K (mt S F) H d v)(q:QD d S):Q v H:=c v d H S (Ext.refl _ _) r h q
theorem Cn.int(c:Cn K F S H QD Q)(r:Rp K F S H){i:Int}(q:QD (.int i) S):Q (.int i) H:=c.here r (by rfl) q
theorem Cn.str(c:Cn K F S H QD Q)(r:Rp K F S H){i:Str}(q:QD (.str i) S):Q (.str i) H:=c.here r (by rfl) q
theorem Cn.bl(c:Cn K F S H QD Q)(r:Rp K F S H){i:Bool}(q:QD (.bl i) S):Q (.bl i) H:=c.here r (by rfl) q
theorem Rp.nmt(r:Rp K F S H){a:Addr}(h:H a=none):¬ mt S F a:=λz=>by
 rcases z with z|z
 ·exact z (r.sn h)
 ·refine hd λj d=>?_;obtain⟨⟨zs,e,_⟩,_⟩:=r.frm a z;refine d ?_;rw[h] at e;cases e
theorem Cn.tup(c:Cn K F S H QD Q)(r:Rp K F S H){l:Addr}(h:H l=none){ds:List D}{xs:List V}(rl:RepL K (mt S F) H ds xs)(q:QD (.tup ds) S):Q (.ref l) (upd H l (.tup xs)):=by
 have x:Ext S H S (upd H l (.tup xs)):=Ext.same (aQx h);refine c _ _ _ S x (r.same (aQx h)) ?_ q;exact⟨l,xs,rfl,.inl ⟨r.nmt h,.inl aQ9⟩,rl.ext x⟩
theorem Cn.lst(c:Cn K F S H QD Q)(r:Rp K F S H){l:Addr}(h:H l=none){ds:List D}{xs:List V}(rl:RepL K (mt S F) H ds xs)(q:QD (.lst ds) S):Q (.ref l) (upd H l (.lst xs)):=by
 have x:Ext S H S (upd H l (.lst xs)):=Ext.same (aQx h);refine c _ _ _ S x (r.same (aQx h)) ?_ q;exact⟨l,xs,rfl,.inl ⟨r.nmt h,.inl aQ9⟩,rl.ext x⟩
theorem Cn.lstR(c:Cn K F S H QD Q)(r:Rp K F S H){l:Addr}(h:H l=none){ds:List D}{xs:List V}(rl:RepL K (mt S F) H ds xs)(q:QD (.ref l) (supd S l (.lst ds))):Q (.ref l) (upd H l (.lst xs)):=by
 have x:Ext S H (supd S l (.lst ds)) (upd H l (.lst xs)):=Ext.mk' h;exact c _ _ _ _ x (r.mk' h ⟨xs,aQ9,rl.ext x⟩) (by rfl) q
def newL(b:Bool)(ds:List D)(S:Sto)(Q:DK):Prop:=match b with
 |false=>Q (.lst ds) S
 |true=>∀p,S p=none->Q (.ref p) (supd S p (.lst ds))
theorem Cn.new(c:Cn K F S H QD Q)(r:Rp K F S H){b:Bool}{l:Addr}(h:H l=none){ds:List D}{xs:List V}(rl:RepL K (mt S F) H ds xs)(q:newL b ds S QD):Q (.ref l) (upd H l (.lst xs)):=by
 cases b with
 |false=>exact c.lst r h rl q
 |true=>exact c.lstR r h rl (q l (r.sn h))
def lsIs(S:Sto):D->List D->Prop
 |.lst ys,xs=>ys=xs
 |.ref a,xs=>S a=some (.lst xs)
 |_,_=>False
def sqIs(S:Sto):D->List D->Prop
 |.tup ys,xs=>ys=xs
 |.lst ys,xs=>ys=xs
 |.ref a,xs=>S a=some (.lst xs)
 |_,_=>False
theorem lsIs.sl(r:Rp K F S H){d:D}{v:V}{ds:List D}(h:RepV K (mt S F) H d v)(l:lsIs S d ds):∃a xs,v=.ref a/\SqL K H a xs/\RepL K (mt S F) H ds xs:=by
 cases d with
 |lst ys =>
  cases l;refine hd λB j=>?_;obtain⟨a,xs,e,q,z⟩:=h;refine j ?_;exact⟨a,xs,e,q.sq,z⟩
 |ref a =>
  refine hd λB j=>?_;obtain⟨xs,e,z⟩:=r.obj a _ l;refine j ?_;exact⟨a,xs,h,SqL.of e,z⟩
 |_=>exact l.elim
theorem tup.st(h:RepV K (mt S F) H (.tup ds) v):∃a xs,v=.ref a/\SqT K H a xs/\RepL K (mt S F) H ds xs:=by
 refine hd λj d=>?_;obtain⟨a,xs,e,t,z⟩:=h;refine d ?_;exact⟨a,xs,e,t.sq,z⟩
theorem sqIs.sq(r:Rp K F S H){d:D}{v:V}{ds:List D}(h:RepV K (mt S F) H d v)(l:sqIs S d ds):∃a xs,v=.ref a/\(SqL K H a xs\/SqT K H a xs)/\RepL K (mt S F) H ds xs:=by
 cases d with
 |tup ys =>
  cases l;refine hd λB j=>?_;obtain⟨a,xs,e,t,z⟩:=tup.st h;refine j ?_;exact⟨a,xs,e,.inr t,z⟩
 |lst ys =>
  refine hd λB j=>?_;obtain⟨a,xs,e,t,z⟩:=lsIs.sl r h (l);refine j ?_
  exact⟨a,xs,e,.inl t,z⟩
 |ref a =>
  refine hd λB j=>?_;obtain⟨a,xs,e,t,z⟩:=lsIs.sl r h (l);refine j ?_
  exact⟨a,xs,e,.inl t,z⟩
 |_=>exact l.elim
theorem rint(h:RepV K (mt S F) H (.int i) v):v=.int i:=h
theorem rstr(h:RepV K (mt S F) H (.str i) v):v=.str i:=h
theorem rbl(h:RepV K (mt S F) H (.bl i) v):v=.bl i:=h
theorem rref(h:RepV K (mt S F) H (.ref i) v):v=.ref i:=h
theorem rnon(h:RepV K (mt S F) H .non v):v=.non:=h
end
section
variable{X:Cx}{K:Fg}
def gQo(K:Fg):R2:=λx y H Q=>∃l b xs zs,x=.ref l/\y=.ref b/\SqL K H l xs/\SqL K H b zs/\xs.length+zs.length<=sizeLine/\∀p,H p=none->Q (.ref p) (upd H p (.lst (xs++zs)))
theorem fQq(hK:X.K=K:=by rfl):OpR X (eX .Add) (gQo K):=by
 subst hK;intro pins s σ H x y v u Q I rx ry h;obtain⟨l,b,xs,zs,rfl,rfl,hH,hB,hz,q⟩:=h;cases rx;cases ry;obtain⟨z,r,⟨⟨cls,dd,data,sl⟩,n,N,O,hd,D⟩,hz1⟩:=I.list hH;obtain⟨d,L,⟨⟨U,dd2,data2,J⟩,Y,B,G,hd2,j⟩,Z⟩:=I.list hB;simp only at O hd D G hd2 j;subst O hd D G hd2 j;have h1:=r.length;have h2:=L.length;refine ke ⟨_,N,rfl⟩ ⟨_,B,rfl⟩ noFill_list_add seq_list_add PySem.F.slot_list_add PySem.F.entry_list_add (PySem.F.args_list_add_2 _ _)
  (list_addW l b z.toArray d.toArray n Y none none sl J (by rw[aq,aq];lia)) ⟨N,B,?_⟩
 have ea:z.toArray++d.toArray=(z++d).toArray:=by simp
 rw[ea];exact⟨.ref _,_,I.lnew (r.append L) (by rw[ax];lia),rfl,q _ I.fresh⟩
def gQp(K:Fg):R2:=λx y H Q=>∃a b ys,x=.ref a/\y=.ref b/\SqT K H a []/\SqT K H b ys/\Q (.ref b) H
theorem fQr(hK:X.K=K:=by rfl):OpR X (eX .Add) (gQp K):=by
 subst hK;intro pins s σ H x y v u Q I rx ry h;obtain⟨a,b,ys,rfl,rfl,ha,Z,q⟩:=h;cases rx;cases ry;refine hd λGq B=>?_;obtain⟨Y,r1,O,_⟩:=I.tuple ha;refine B ?_;refine hd λGq B=>?_;obtain⟨G,r2,p2,_⟩:=I.tuple Z;refine B ?_;cases r1;obtain⟨⟨cls,dd,data,sl⟩,J,L,n,hd⟩:=id O;obtain⟨⟨N,D,data2,z⟩,d,j,U,hd2⟩:=id p2;simp only at L hd j hd2;subst L hd j hd2;exact ke ⟨_,J,rfl⟩ ⟨_,d,rfl⟩ jX seq_tuple_add g9 gW (gD _ _)
   (tuple_addW0 a b _ _ n U dd D sl z rfl) ⟨J,d,⟨.ref b,H,I,rfl,q⟩⟩
def addD(b:Bool):R2D:=λd e S Q=>match d,e with
 |.int i,.int j=>Q (.int (i+j)) S
 |.str x,.str y=>x.length+y.length<=sizeLine/\Q (.str (x++y)) S
 |.tup xs,.tup ys=>xs.length+ys.length<=sizeLine/\Q (.tup (xs++ys)) S
 |d,e=>∃xs ys,lsIs S d xs/\lsIs S e ys/\xs.length+ys.length<=sizeLine/\newL b (xs++ys) S Q
def fQs(K:Fg):R2:=λx y H Q=>rI0 (λi j=>.int (i+j)) x y H Q\/(∃i j,x=.str i/\y=.str j/\i.length+j.length<=sizeLine/\Q (.str (i++j)) H)\/eJv K x y H Q\/gQp K x y H Q\/gQo K x y H Q
theorem fQt(hK:X.K=K:=by rfl):OpR X (eX .Add) (fQs K):=op_add.or (op_add_str.or ((eQn hK).or ((fQr hK).or (fQq hK))))
theorem gQq:OpD K (fQs K) (addD b):=by
 intro F S H d e x y Q QD r hd he h c;have lists:(∃xs ys,lsIs S d xs/\lsIs S e ys/\xs.length+ys.length<=sizeLine/\newL b (xs++ys) S QD)->fQs K x y H Q:=by
  rintro⟨xs,ys,L,J,N,q⟩;obtain⟨a,us,rfl,s1,B⟩:=lsIs.sl r hd L;obtain⟨a2,us2,rfl,s2,p2⟩:=lsIs.sl r he J;exact .inr (.inr (.inr (.inr ⟨a,a2,us,us2,rfl,rfl,s1,s2,by rw[B.length,p2.length];exact N,λp D=>c.new r D (B.app p2) q⟩)))
 cases d with
 |int i =>
  cases e with
  |int j=>rw[rint hd,rint he];exact .inl ⟨i,j,rfl,rfl,c.int r h⟩
  |_=>exact lists h
 |str i =>
  cases e with
  |str j=>rw[rstr hd,rstr he];exact .inr (.inl ⟨i,j,rfl,rfl,h.1,c.str r h.2⟩)
  |_=>exact lists h
 |tup xs =>
  cases e with
  |tup ys =>
   obtain⟨a,us,rfl,s1,B⟩:=tup.st hd;obtain⟨a2,us2,rfl,s2,p2⟩:=tup.st he
   by_cases G:xs=[]
   ·subst G;subst B;exact .inr (.inr (.inr (.inl ⟨a,a2,us2,rfl,rfl,s1,s2,c.here r he (by simpa using h.2)⟩)))
   ·refine .inr (.inr (.inl ⟨a,a2,us,us2,rfl,rfl,s1,s2,λz=>G ?_,by rw[B.length,p2.length];exact h.1,λz=>?_,λ_ p D=>c.tup r D (B.app p2) h.2⟩))
    ·have:=B.length;rw[z] at this;exact bD this.symm
    ·have h0:ys=[]:=by have:=p2.length;rw[z] at this;exact bD this.symm
     subst h0;exact c.here r hd (by simpa using h.2)
  |_=>exact lists h
 |_=>exact lists h
def iiD(C:Int->Int->Prop)(g:Int->Int->D):R2D:=λd e S Q=>match d,e with
 |.int i,.int j=>C i j/\Q (g i j) S
 |_,_=>False
theorem od_I{g:Int->Int->Int}:OpD K (rI C λi j=>.int (g i j)) (iiD C λi j=>.int (g i j)):=by
 intro F S H d e x y Q QD r hd he h c;cases d with
 |int i =>
  cases e with
  |int j=>rw[rint hd,rint he];exact⟨i,j,rfl,rfl,h.1,c.int r h.2⟩
  |_=>exact h.elim
 |_=>exact h.elim
def iiD0(g:Int->Int->D):R2D:=λd e S Q=>match d,e with
 |.int i,.int j=>Q (g i j) S
 |_,_=>False
theorem gJn{g:Int->Int->Int}:OpD K (rI0 λi j=>.int (g i j)) (iiD0 λi j=>.int (g i j)):=by
 intro F S H d e x y Q QD r hd he h c;cases d with
 |int i =>
  cases e with
  |int j=>rw[rint hd,rint he];exact⟨i,j,rfl,rfl,c.int r h⟩
  |_=>exact h.elim
 |_=>exact h.elim
theorem cZ5{g:Int->Int->Bool}:OpD K (rI0 λi j=>.bl (g i j)) (iiD0 λi j=>.bl (g i j)):=by
 intro F S H d e x y Q QD r hd he h c;cases d with
 |int i =>
  cases e with
  |int j=>rw[rint hd,rint he];exact⟨i,j,rfl,rfl,c.bl r h⟩
  |_=>exact h.elim
 |_=>exact h.elim
section
variable{a b:Expr}{ta tb:ED}{pos:Pos}
theorem aQr(ha:PD K X a ta)(hb:PD K X b tb)(hK:X.K=K:=by rfl):PD K X (.BinOp a .Add b pos) (dOp (addD k) ta tb):=e_op (fQt hK) gQq ha hb
theorem dZr(ha:PD K X a ta)(hb:PD K X b tb):PD K X (.BinOp a .Sub b pos) (dOp (iiD0 λi j=>.int (i-j)) ta tb):=e_op fJl gJn ha hb
theorem eQw(ha:PD K X a ta)(hb:PD K X b tb):PD K X (.BinOp a .Mult b pos) (dOp (iiD CMul λi j=>.int (i*j)) ta tb):=e_op fJm od_I ha hb
theorem cQ2(ha:PD K X a ta)(hb:PD K X b tb):PD K X (.BinOp a .Mod b pos) (dOp (iiD (λ_ j=>0<j) λi j=>.int (i%j)) ta tb):=e_op fJn od_I ha hb
theorem cQ3(ha:PD K X a ta)(hb:PD K X b tb):PD K X (.BinOp a .FloorDiv b pos) (dOp (iiD CDiv λi j=>.int (i/j)) ta tb):=e_op eJm od_I ha hb
theorem gJo(ha:PD K X a ta)(hb:PD K X b tb):PD K X (.BinOp a .Pow b pos) (dOp (iiD CPow λi j=>.int (i^j.toNat)) ta tb):=e_op fJo od_I ha hb
end
def unD(g:Int->D):D->Sto->DK->Prop:=λd S Q=>match d with
 |.int i=>Q (g i) S
 |_=>False
def dUn(rd:D->Sto->DK->Prop)(ta:ED):ED:=fun Γ S Q=>ta Γ S λx S1=>rd x S1 Q
theorem fQu(ha:PD K X a ta):PD K X (.UnaryOp .USub a pos) (dUn (unD λi=>.int (-i)) ta):=.of (fJk eX8 ha.o) fun σ H Q B=>B.el λF S Γ QD r g q c =>
 ⟨F,S,Γ,_,r,g,q,λv d H1 O G J v1 j=>by
  cases d with
  |int i=>rw[rint v1];exact⟨i,rfl,Cn.int (λv z N L D=>c v z N L (G.trans D)) J j⟩
  |_=>exact j.elim⟩
def dNil:AD:=λ_ S Q=>Q [] S
def dZs(ta:ED)(tr:AD):AD:=fun Γ S Q=>ta Γ S λx S1=>tr Γ S1 λxs S2=>Q (x::xs) S2
theorem aQ1:PAD K X [] dNil:=.of bX0 fun σ H Q d=>d.el λF S Γ QD r g q c=>c [] [] H S (Ext.refl _ _) r RepL.nil q
theorem aQ0(ha:PD K X e te)(hr:PAD K X es t)(hs:az (e::es) X.env=(false,eval e X.env)::az es X.env:=by rfl):PAD K X (e::es) (dZs te t) :=
 .of (aJj ha.o hr.o hs) fun σ H Q B=>B.el λF S Γ QD r g q c=>⟨F,S,Γ,_,r,g,q,λv d H1 O z G v1 L=>⟨F,O,Γ,_,G,g.ext z,L,λvs ds H2 N j D v2 J=>c (v::vs) (d::ds) H2 N (z.trans j) D (RepL.cons (v1.ext j) v2) J⟩⟩
def dTup(t:AD):ED:=fun Γ S Q=>t Γ S λds S1=>ds.length<=sizeLine/\Q (.tup ds) S1
def dLst(b:Bool)(t:AD):ED:=fun Γ S Q=>t Γ S λds S1=>ds.length<=sizeLine/\newL b ds S1 Q
theorem Cn.shift(c:∀v d H' S',Ext S H S' H'->Rp K F S' H'->RepV K (mt S' F) H' d v->QD d S'->Q v H')(x:Ext S H S1 H1):Cn K F S1 H1 QD Q:=λv z D B j=>c v z D B (x.trans j)
theorem bZq(h:PAD K X es t):PD K X (.Tuple es x1 pos) (dTup t):=.of (fJq h.o) fun σ H Q j=>j.el λF S Γ QD r g q c =>
 ⟨F,S,Γ,_,r,g,q,λvs ds H1 D x1 z v1 d=>⟨by rw[v1.length];exact d.1,λp B=>(Cn.shift c x1).tup z B v1 d.2⟩⟩
theorem aX7(h:PAD K X es t):PD K X (.List es pos) (dLst b t):=.of (fJr h.o) fun σ H Q j=>j.el λF S Γ QD r g q c =>
 ⟨F,S,Γ,_,r,g,q,λvs ds H1 G z B v1 d=>⟨by rw[v1.length];exact d.1,λp D=>(Cn.shift c z).new B D v1 d.2⟩⟩
abbrev RCD:=List D->Sto->DK->Prop
def bZr(K:Fg)(r:List V->Hp->VK->Prop)(rd:RCD):Prop:=∀F S H ds vs Q QD,Rp K F S H->RepL K (mt S F) H ds vs->rd ds S QD->Cn K F S H QD Q->r vs H Q
def dCB(rd:RCD)(t:AD):ED:=fun Γ S Q=>t Γ S λds S1=>rd ds S1 Q
theorem gQr(h:bZr K r rd):∀σ H Q,upE K (dCB rd t) σ H Q->tCB r (upA K t) σ H Q:=fun σ H Q d=>d.el λF S Γ QD r g q c =>
 ⟨F,S,Γ,_,r,g,q,λvs ds H1 D j z v1 B=>h F D H1 ds vs Q QD z v1 B (Cn.shift c j)⟩
theorem aXz{id:String}{r:List V->Hp->VK->Prop}{rd:RCD}{x:Str}{p pos:Pos}{e:Expr}{es:List Expr}{t:AD}(hc:CallR X (.builtin id) r)(h:bZr K r rd)(hg:Gl X x)(hm:X.mg x=none)(hv:cG x=some (.builtin id))(ha:PAD K X (e::es) t)(hn:x ≠ "__name__":=by decide)(hdb:(x==("__debug__":Str))=false:=by decide)
  (he:az (e::es) X.env=(false,eval e X.env)::az es X.env:=by rfl) (hpl:(cC pos (az es X.env)).any (·.1)=false:=by rfl):PD K X (.Call (.Name x p) (e::es) [] pos) (dCB rd t):=.of (bQ8 hc hg hm hv ha.o hn hdb he hpl) (gQr h)
theorem bXv{T:String}{r:List V->Hp->VK->Prop}{rd:RCD}{x:Str}{p pos:Pos}{e:Expr}{es:List Expr}{t:AD}(hc:CallR X (.type T) r)(h:bZr K r rd)(hg:Gl X x)(hm:X.mg x=none)(hv:cG x=some (.type T))(ha:PAD K X (e::es) t)(hn:x ≠ "__name__":=by decide)(hdb:(x==("__debug__":Str))=false:=by decide)
  (he:az (e::es) X.env=(false,eval e X.env)::az es X.env:=by rfl) (hpl:(cC pos (az es X.env)).any (·.1)=false:=by rfl):PD K X (.Call (.Name x p) (e::es) [] pos) (dCB rd t):=.of (bQh hc hg hm hv ha.o hn hdb he hpl) (gQr h)
end
mutual
def beqD:D->D->Bool
 |.non,.non=>true
 |.bl a,.bl b=>a==b
 |.int a,.int b=>decide (a=b)
 |.str a,.str b=>decide (a=b)
 |.ty a,.ty b=>decide (a=b)
 |.ref a,.ref b=>decide (a=b)
 |.tup a,.tup b=>cZ6 a b
 |.lst a,.lst b=>cZ6 a b
 |_,_=>false
def cZ6:List D->List D->Bool
 |[],[]=>true
 |a::as,b::bs=>beqD a b&&cZ6 as bs
 |_,_=>false
end
theorem bqE{α:Type}[BEq α][LawfulBEq α]{c:α->D}(inj:∀x y,c x=c y->x=y)(x y:α):(x==y)=true↔c x=c y:=⟨λh=>congrArg c (beq_iff_eq.mp h),λh=>beq_iff_eq.mpr (inj x y h)⟩
theorem bdE{α:Type}{c:α->D}(inj:∀x y,c x=c y->x=y)(x y:α){d:Decidable (x=y)}:@decide (x=y) d=true↔c x=c y:=⟨λh=>congrArg c (of_decide_eq_true h),λh=>decide_eq_true (inj x y h)⟩
theorem bnE(h:¬ p):false=true↔p:=⟨λz=>absurd z cD,λz=>absurd z h⟩
mutual
theorem dZt:∀{a b:D},beqD a b=true↔a=b
 |.non,b=>by
  cases b with
  |non=>exact⟨λ_=>rfl,λ_=>rfl⟩
  |_=>exact bnE (λh=>by cases h)
 |.bl x,b=>by
  cases b with
  |bl y=>exact bqE (λ_ _ h=>by injection h) x y
  |_=>exact bnE (λh=>by cases h)
 |.int x,b=>by
  cases b with
  |int y=>exact bdE (λ_ _ h=>by injection h) x y
  |_=>exact bnE (λh=>by cases h)
 |.str x,b=>by
  cases b with
  |str y=>exact bdE (λ_ _ h=>by injection h) x y
  |_=>exact bnE (λh=>by cases h)
 |.ty x,b=>by
  cases b with
  |ty y=>exact bdE (λ_ _ h=>by injection h) x y
  |_=>exact bnE (λh=>by cases h)
 |.ref x,b=>by
  cases b with
  |ref y=>exact bdE (λ_ _ h=>by injection h) x y
  |_=>exact bnE (λh=>by cases h)
 |.tup as,b=>by
  cases b with
  |tup bs=>exact beqDs_eq.trans ⟨λh=>congrArg D.tup h,λh=>by injection h⟩
  |_=>exact bnE (λh=>by cases h)
 |.lst as,b=>by
  cases b with
  |lst bs=>exact beqDs_eq.trans ⟨λh=>congrArg D.lst h,λh=>by injection h⟩
  |_=>exact bnE (λh=>by cases h)
theorem beqDs_eq:∀{a b:List D},cZ6 a b=true↔a=b
 |[],b=>by cases b <;> simp[cZ6]
 |a::as,[]=>by simp[cZ6]
 |a::as,b::bs=>by
  simp only[cZ6,aV,List.cons.injEq];rw[dZt,beqDs_eq]
end
instance:DecidableEq D:=λa b=>decidable_of_iff _ (dZt (a:=a) (b:=b))
def okE:Nat->D->D->Bool
 |_,.int _,.int _=>true
 |_,.str _,.str _=>true
 |_,.bl _,.bl _=>true
 |_,.non,.non=>true
 |_,.non,.int _=>true
 |_,.int _,.non=>true
 |_,.non,.str _=>true
 |_,.str _,.non=>true
 |n+1,.non,.tup _=>true
 |n+1,.tup _,.non=>true
 |n+1,.tup xs,.tup ys=>(xs.zip ys).all λp=>okE n p.1 p.2
 |n+1,.lst xs,.lst ys=>(xs.zip ys).all λp=>okE n p.1 p.2
 |_,_,_=>false
abbrev okEs(n:Nat)(xs ys:List D):Bool:=(xs.zip ys).all λp=>okE n p.1 p.2
section
variable{X:Cx}{pins:List (Addr×Obj)}{σ:St}{H:Hp}{s:ai}{M:Am}
structure Eq3(A:aW)(s:ai)(u v:ad)(b:Bool):Prop where
 eq:cV A s u v b
 rc:SeqAt.RcAt A s u v b
 ne:cQ A s u v (!b)
theorem fQv:decide (D.tup xs=D.tup ys)=decide (xs=ys):=by simp
theorem fQw:decide (D.lst xs=D.lst ys)=decide (xs=ys):=by simp
theorem fQx{xs ys:List D}{j:Nat}(h1:xs[j]?=some a)(h2:ys[j]?=some b):(a,b)∈xs.zip ys:=by
 have B:j<xs.length:=by
  rcases bU j xs.length with z|z
  ·exact z
  ·rw[bL z] at h1;cases h1
 have d:j<ys.length:=by
  rcases bU j ys.length with z|z
  ·exact z
  ·rw[bL z] at h2;cases h2
 have L:xs[j]=a:=by rw[ah B] at h1;exact aQ h1
 have J:ys[j]=b:=by rw[ah d] at h2;exact aQ h2
 have G:j<(xs.zip ys).length:=by rw[List.length_zip];lia
 have:(xs.zip ys)[j]=(a,b):=by rw[List.getElem_zip,L,J]
 rw[<- this];exact db G
theorem eXn(p:RepL X.K M H ds xs)(p':RepL X.K M H es ys)(r:Vals xs us)(r':Vals ys vs)(hz:okEs n ds es=true)
  (ih:∀{d e:D}{x y:V}{u v:ad},RepV X.K M H d x->RepV X.K M H e y->RelV x u->RelV y v->okE n d e=true->Eq3 A s u v (decide (d=e))) :
  ∀j (h1:j<us.toArray.size) (h2:j<vs.toArray.size),cV A s us.toArray[j] vs.toArray[j] (decide (ds[j]?=es[j]?)):=by
 intro j h1 h2;simp only[aq] at h1 h2;have J:j<xs.length:=by have:=r.length;lia
 have G:j<ys.length:=by have:=r'.length;lia
 obtain⟨d,N,rd⟩:=p.get' (ah J);obtain⟨e,L,re⟩:=p'.get' (ah G);obtain⟨u,eu,U⟩:=r.get (ah J);obtain⟨v,ev,O⟩:=r'.get (ah G);have B:us[j]=u:=by rw[ah h1] at eu;exact aQ eu
 have z:vs[j]=v:=by rw[ah h2] at ev;exact aQ ev
 have:decide (ds[j]?=es[j]?)=decide (d=e):=by rw[N,L];simp
 rw[this];simp only[List.getElem_toArray];rw[B,z];exact(ih rd re U O (ba.mp hz _ (fQx N L))).eq
theorem eXo(I:Inv X pins σ H s)(q:SqL X.K H a xs)(q':SqL X.K H b ys)(p:RepL X.K M H ds xs)(p':RepL X.K M H es ys)(hz:okEs n ds es=true)(hu:A.units+(n+1)<bR)
  (ih:∀{d e:D}{x y:V}{u v:ad},RepV X.K M H d x->RepV X.K M H e y->RelV x u->RelV y v->okE n d e=true->Eq3 A.in1 s u v (decide (d=e))) :
  SeqAt.RcAt A s (.ref a) (.ref b) (decide (ds=es))/\cQ A s (.ref a) (.ref b) (!decide (ds=es)):=by
 obtain⟨us,L,pl,_⟩:=I.list q;obtain⟨vs,J,z,_⟩:=I.list q';have Y:=p.length;have U:=p'.length;have O:=L.length;have N:=J.length;have it:=eXn p p' L J hz ih
 by_cases hl:ds.length=es.length
 ·have hs:us.toArray.size=vs.toArray.size:=by rw[aq,aq];lia
  have G:((aI (us.toArray.size)).all λj=>decide (ds[j]?=es[j]?))=decide (ds=es):=by
   have:=dQz ds es us.toArray.size vs.toArray.size (by rw[aq];lia) (by rw[aq];lia)
   rw[hs,Nat.min_self] at this;rw[hs,<- this];simp
  have h1:=SeqAt.RcAt.lists pl.isList z.isList hs (by lia) λj h1 h2=>it j h1 h2
  have h2:=cQ.lists pl.isList z.isList hs (by lia) λj h1 h2=>it j h1 h2
  rw[G] at h1 h2;exact⟨h1,h2⟩
 ·have hs:(us.toArray.size !=vs.toArray.size)=true:=by rw[aq,aq];simp;lia
  have B:ds≠es:=λe=>hl (by rw[e])
  rw[decide_eq_false B];exact⟨SeqAt.RcAt.lists_lengths pl.isList z.isList hs (by lia),cQ.lists_lengths pl.isList z.isList hs (by lia)⟩
theorem fQy(ih:∀{d e:D}{v:V},RepV X.K M H d v->RepV X.K M H e v->okE n d e=true->d=e):∀{ds es:List D}{xs:List V},RepL X.K M H ds xs->RepL X.K M H es xs->okEs n ds es=true->ds=es
 |[],[],_,_,_,_=>rfl
 |[],e::es,xs,p,j,_=>by have h1:=p.length;have h2:=j.length;rw[h1] at h2;simp at h2
 |d::ds,[],xs,p,j,_=>by have h1:=p.length;have h2:=j.length;rw[h1] at h2;simp at h2
 |d::ds,e::es,xs,p,j,h=>by
  obtain⟨v,vs,rfl,r,l⟩:=p;obtain⟨J,z,e1,B,G⟩:=j;cases e1;simp only[okEs,cP,jS,aV] at h;rw[ih r B h.1,fQy ih l G h.2]
inductive OkB:D->D->Prop where
 |ii (i j:Int):OkB (.int i) (.int j)
 |ss (i j:Str):OkB (.str i) (.str j)
 |bb (i j:Bool):OkB (.bl i) (.bl j)
 |nn:OkB .non .non
 |ni (i:Int):OkB .non (.int i)
 |iN (i:Int):OkB (.int i) .non
 |ns (i:Str):OkB .non (.str i)
 |sn (i:Str):OkB (.str i) .non
inductive OkC(n:Nat):D->D->Prop where
 |nt (ys:List D):OkC n .non (.tup ys)
 |tn (xs:List D):OkC n (.tup xs) .non
 |tt (xs ys:List D) (h:okEs n xs ys=true):OkC n (.tup xs) (.tup ys)
 |ll (xs ys:List D) (h:okEs n xs ys=true):OkC n (.lst xs) (.lst ys)
theorem okC0(h:okE 0 d e=true):OkB d e:=by
 cases d <;> cases e <;> first|exact .ii _ _|exact .ss _ _|exact .bb _ _|exact .nn|exact .ni _|exact .iN _|exact .ns _|exact .sn _|cases h
theorem okC1(h:okE (n+1) d e=true):okE 0 d e=true\/OkC n d e:=by
 cases d <;> first|(cases e <;> first|exact .inl rfl|exact .inr (.nt _)|cases h)|(cases e <;> first|exact .inr (.tn _)|exact .inr (.tt _ _ h)|exact .inr (.ll _ _ h)|cases h)
theorem uniqB(o:OkB d e)(h:RepV X.K M H d v)(h':RepV X.K M H e v):d=e:=by
 cases o <;> first|rfl|(rw[h] at h';cases h' <;> rfl)
theorem uniq(I:Inv X pins σ H s):∀(n:Nat) {d e:D}{v:V},RepV X.K M H d v->RepV X.K M H e v->okE n d e=true->d=e:=by
 intro n
 induction n with
 |zero=>exact λh h' o=>uniqB (okC0 o) h h'
 |succ n B =>
  intro d e v h h' o;rcases okC1 o with o|o
  ·exact uniqB (okC0 o) h h'
  ·cases o with
   |nt ys=>obtain⟨a,xs,e1,_⟩:=h';rw[h] at e1;cases e1
   |tn ys=>obtain⟨a,xs,e1,_⟩:=h;rw[h'] at e1;cases e1
   |tt ds es o =>
    obtain⟨a,xs,rfl,t,l⟩:=h;obtain⟨b,ys,e1,j,z⟩:=h';cases e1
    have:=I.tuple_inj t.sq j.sq
    subst this;rw[fQy B l z o]
   |ll ds es o =>
    obtain⟨a,xs,rfl,t,l⟩:=h;obtain⟨b,ys,e1,j,z⟩:=h';cases e1
    have:=I.list_inj t.sq j.sq
    subst this;rw[fQy B l z o]
theorem eqB(o:OkB d e)(h:RepV X.K M H d x)(h':RepV X.K M H e y)(r:RelV x u)(r':RelV y v):Eq3 A s u v (decide (d=e)):=by
 cases o
 all_goals subst h;subst h'
 ·obtain⟨t,rfl⟩:=r;obtain⟨j,rfl⟩:=r';rw[show ∀a b:Int,decide (D.int a=D.int b)=(a==b) from by intro a b;rw[beq_dec];simp];exact⟨cV.int_int _ _ _ _,SeqAt.RcAt.int_int _ _ _ _,cQ.int_int _ _ _ _⟩
 ·obtain⟨t,rfl⟩:=r;obtain⟨j,rfl⟩:=r';rw[show ∀a b:Str,decide (D.str a=D.str b)=(a==b) from by intro a b;rw[beq_dec];simp];exact⟨jx _ _ _ _,SeqAt.RcAt.str_str _ _ _ _,cQ.str_str _ _ _ _⟩
 ·cases r;cases r';rw[show ∀a b:Bool,decide (D.bl a=D.bl b)=(a==b) from by intro a b;cases a <;> cases b <;> rfl];exact⟨cV.bool_bool _ _,SeqAt.RcAt.bool_bool _ _,cQ.bool_bool _ _⟩
 ·cases r;cases r';exact⟨kH _,SeqAt.RcAt.none_none,cQ.none_none⟩
 ·cases r;obtain⟨t,rfl⟩:=r';exact⟨cV.none_int _ _,SeqAt.RcAt.none_int _ _,cQ.none_int _ _⟩
 ·obtain⟨t,rfl⟩:=r;cases r';exact⟨cV.int_none _ _,SeqAt.RcAt.int_none _ _,cQ.int_none _ _⟩
 ·cases r;obtain⟨t,rfl⟩:=r';exact⟨cV.none_str _ _,SeqAt.RcAt.none_str _ _,cQ.none_str _ _⟩
 ·obtain⟨t,rfl⟩:=r;cases r';exact⟨cV.str_none _ _,SeqAt.RcAt.str_none _ _,cQ.str_none _ _⟩
theorem eq3(I:Inv X pins σ H s):∀(n:Nat) {A:aW}{d e:D}{x y:V}{u v:ad},A.units+n<bR->RepV X.K M H d x->RepV X.K M H e y->RelV x u->RelV y v->okE n d e=true->Eq3 A s u v (decide (d=e)):=by
 intro n
 induction n with
 |zero=>exact λ_ h h' r r' o=>eqB (okC0 o) h h' r r'
 |succ n ih =>
  intro A d e x y u v hu h h' r r' o;rcases okC1 o with o|o
  ·exact eqB (okC0 o) h h' r r'
  ·cases o with
   |nt _ =>
    subst h;cases r;obtain⟨a,xs,rfl,t,l⟩:=(h')
    cases r';obtain⟨us,J,pl,_⟩:=I.tuple t.sq;exact⟨cV.none_tuple pl (by lia),SeqAt.RcAt.none_tuple pl (by lia),cQ.none_tuple pl (by lia)⟩
   |tn _ =>
    subst h';cases r';obtain⟨a,xs,rfl,t,l⟩:=(h)
    cases r;obtain⟨us,J,pl,_⟩:=I.tuple t.sq;exact⟨cV.tuple_none pl (by lia),SeqAt.RcAt.tuple_none pl (by lia),cQ.tuple_none pl (by lia)⟩
   |tt ds es o =>
    have un:=λ{e:D}=>uniq (e:=e) I (n+1) h;have h0:=h;have B:=h';obtain⟨a,xs,rfl,t,l⟩:=h;obtain⟨b,ys,rfl,O,L⟩:=h';cases r;cases r';obtain⟨us,J,pl,_⟩:=I.tuple t.sq;obtain⟨vs,Z,G,_⟩:=I.tuple O.sq;have l1:=l.length;have l2:=L.length;have l3:=J.length;have l4:=Z.length;have it:=eXn (A:=A.in1) l L J Z o λq U z N o=>ih (by lia) q U z N o
    have Y:=dQz ds es us.toArray.size vs.toArray.size (by rw[aq];lia) (by rw[aq];lia)
    have h1:=SeqAt.RcAt.tuples pl G (by lia) it
    have h2:=cQ.tuples pl G (by lia) it
    rw[Y] at h1 h2;rw[fQv];refine⟨?_,h1,h2⟩
    by_cases j:a=b
    ·subst j;have e1:=un B o;cases e1;rw[decide_eq_true rfl];exact kH _
    ·exact lm j h1
   |ll ds es o =>
    have un:=λ{e:D}=>uniq (e:=e) I (n+1) h;have B:=h';obtain⟨a,xs,rfl,t,l⟩:=h;obtain⟨b,ys,rfl,O,L⟩:=h';cases r;cases r';obtain⟨h1,h2⟩:=eXo I t.sq O.sq l L o hu λq U z N o=>ih (by lia) q U z N o
    rw[fQw];refine⟨?_,h1,h2⟩
    by_cases j:a=b
    ·subst j;have e1:=un B o;cases e1;rw[decide_eq_true rfl];exact kH _
    ·exact lm j h1
def eqD(neg:Bool):R2D:=λd e S Q=>match d,e with
 |.ref a,e=>∃xs ys,S a=some (.lst xs)/\lsIs S e ys/\okEs 8 xs ys=true/\Q (.bl (if neg then !decide (xs=ys) else decide (xs=ys))) S
 |.lst xs,.ref a=>∃ys,S a=some (.lst ys)/\okEs 8 xs ys=true/\Q (.bl (if neg then !decide (xs=ys) else decide (xs=ys))) S
 |d,e=>okE 9 d e=true/\Q (.bl (if neg then !decide (d=e) else decide (d=e))) S
def rEqA(K:Fg)(neg:Bool):R2:=λx y H Q=>∃b,(∀{X:Cx}{pins:List (Addr×Obj)}{σ:St}{s:ai},Inv X pins σ H s->X.K=K->∀{u v:ad},RelV x u->RelV y v->∀A:aW,A.units+9<bR->SeqAt.RcAt A s u v b/\cQ A s u v (!b))/\Q (.bl (if neg then !b else b)) H
theorem eXp{K:Fg}(hu:X.A.units+9<bR)(hK:X.K=K:=by rfl):OpR X (cq .Eq) (rEqA K false):=by
 intro pins s σ H x y v u Q I j d ⟨b,h,q⟩;exact(h I hK j d X.A hu).1 _ _ _ _ ⟨.bl b,H,I,rfl,q⟩
theorem gQs{K:Fg}(hu:X.A.units+9<bR)(hK:X.K=K:=by rfl):OpR X (cq .NotEq) (rEqA K true):=by
 intro pins s σ H x y v u Q I j d ⟨b,h,q⟩;exact(h I hK j d X.A hu).2 _ _ _ _ ⟨.bl (!b),H,I,rfl,q⟩
theorem fQz{K:Fg}:OpD K (rEqA K neg) (eqD neg):=by
 intro F S H d e x y Q QD r hd he h c;have lists:∀{xs ys:List D},lsIs S d xs->lsIs S e ys->okEs 8 xs ys=true->QD (.bl (if neg then !decide (xs=ys) else decide (xs=ys))) S->rEqA K neg x y H Q:=by
  intro xs ys Y U o q;obtain⟨a,us,rfl,s1,O⟩:=lsIs.sl r hd Y;obtain⟨a2,us2,rfl,s2,p2⟩:=lsIs.sl r he U;refine⟨_,λ{X pins σ s} I j u v ru rv A B=>?_,c.bl r q⟩;subst j;cases ru;cases rv;exact eXo I s1 s2 O p2 o B λq N z L o=>eq3 I 8 (by lia) q N z L o
 have plain:okE 9 d e=true->QD (.bl (if neg then !decide (d=e) else decide (d=e))) S->rEqA K neg x y H Q:=by
  intro o q;refine⟨_,λ{X pins σ s} I j u v ru rv A B=>?_,c.bl r q⟩;subst j
  have:=eq3 I 9 B hd he ru rv o
  exact⟨this.rc,this.ne⟩
 cases d with
 |ref a=>obtain⟨xs,ys,h1,h2,J,G⟩:=h;exact lists h1 h2 J G
 |lst xs =>
  cases e with
  |ref a=>obtain⟨ys,h2,J,G⟩:=h;exact lists rfl h2 J G
  |_=>exact plain h.1 h.2
 |_=>exact plain h.1 h.2
mutual
def plain:D->Bool
 |.non=>true
 |.bl _=>true
 |.int _=>true
 |.str _=>true
 |.tup xs=>aZ2 xs
 |_=>false
def aZ2:List D->Bool
 |[]=>true
 |x::xs=>plain x&&aZ2 xs
end
mutual
theorem cXe(I:Inv X pins σ H s):∀{d e:D}{v:V},plain d=true->plain e=true->RepV X.K M H d v->RepV X.K M H e v->d=e
 |.tup ds,e,v,p,p',h,h'=>by
  cases e with
  |tup es =>
   unfold RepV at h h';obtain⟨a,xs,rfl,t,l⟩:=h;obtain⟨b,ys,e1,j,z⟩:=h';cases e1
   have:=I.tuple_inj t.sq j.sq
   subst this;unfold plain at p p';rw[cQ4 I p p' l z]
  |lst _=>cases p'
  |ref _=>cases p'
  |ty _=>cases p'
  |_ =>
   unfold RepV at h h';obtain⟨a,xs,e1,_⟩:=h;rw[h'] at e1;cases e1
 |.non,e,v,p,p',h,h'=>by
  cases e <;> first|rfl|(cases p';done)|(unfold RepV at h h';rw[h] at h';cases h';done)|(unfold RepV at h h';obtain⟨a,xs,e1,_⟩:=h';rw[h] at e1;cases e1)
 |.bl _,e,v,p,p',h,h'=>by
  cases e <;> first|(cases p';done)|(unfold RepV at h h';rw[h] at h';cases h';done)|(unfold RepV at h h';rw[h] at h';cases h';rfl)|(unfold RepV at h h';obtain⟨a,xs,e1,_⟩:=h';rw[h] at e1;cases e1)
 |.int _,e,v,p,p',h,h'=>by
  cases e <;> first|(cases p';done)|(unfold RepV at h h';rw[h] at h';cases h';done)|(unfold RepV at h h';rw[h] at h';cases h';rfl)|(unfold RepV at h h';obtain⟨a,xs,e1,_⟩:=h';rw[h] at e1;cases e1)
 |.str _,e,v,p,p',h,h'=>by
  cases e <;> first|(cases p';done)|(unfold RepV at h h';rw[h] at h';cases h';done)|(unfold RepV at h h';rw[h] at h';cases h';rfl)|(unfold RepV at h h';obtain⟨a,xs,e1,_⟩:=h';rw[h] at e1;cases e1)
 |.ty _,e,v,p,p',h,h'=>by cases p
 |.ref _,e,v,p,p',h,h'=>by cases p
 |.lst _,e,v,p,p',h,h'=>by cases p
theorem cQ4(I:Inv X pins σ H s):∀{ds es:List D}{vs:List V},aZ2 ds=true->aZ2 es=true->RepL X.K M H ds vs->RepL X.K M H es vs->ds=es
 |[],es,vs,p,z,l,j=>by
  have h1:=l.length;have h2:=j.length;rw[h1] at h2;exact(bD h2.symm).symm
 |d::ds,[],vs,p,z,l,j=>by have h1:=l.length;have h2:=j.length;rw[h1] at h2;simp at h2
 |d::ds,e::es,vs,p,z,l,j=>by
  unfold RepL at l j;obtain⟨v,vs,rfl,r,l⟩:=l;obtain⟨J,B,e1,G,j⟩:=j;cases e1;simp only[aZ2,aV] at p z;rw[cXe I p.1 z.1 r G,cQ4 I p.2 z.2 l j]
end
theorem aJr:∀{ds:List D},aZ2 ds=true->∀d∈ds,plain d=true
 |[],_,d,h=>by cases h
 |x::ds,p,d,h=>by
  simp only[aZ2,aV] at p;rcases aw.mp h with rfl|h
  ·exact p.1
  ·exact aJr p.2 d h
def rInA(K:Fg)(neg:Bool):R2:=λx y H Q=>∃p xs b,y=.ref p/\(SqL K H p xs\/SqT K H p xs) /\
 (∀{X:Cx}{pins:List (Addr×Obj)}{σ:St}{s:ai},Inv X pins σ H s->X.K=K->∀{v:ad}{us:List ad},RelV x v->Vals xs us->∀A:aW,A.units+9<bR->∃f:ad->Bool,(∀u∈us,cV A s u v (f u))/\us.any f=b)/\Q (.bl (if neg then !b else b)) H
theorem eXq{K:Fg}(hu:X.A.units+10<bR)(hK:X.K=K:=by rfl):OpR X (cq .In) (rInA K false):=by
 intro pins s σ H x y v u Q I z ry h;obtain⟨p,xs,b,rfl,j,hf,q⟩:=h;cases ry;rw[<- hK] at j;rcases j with j|j
 ·obtain⟨d,r,pl,B⟩:=I.list j;obtain⟨f,f1,f2⟩:=hf I hK z r X.A.in1 (by lia)
  refine SeqAt.in_listAt f pl.isList (λw hw=>f1 w (by simpa using hw)) ⟨.bl _,H,I,rfl,?_⟩
  rw[show d.toArray.any f=d.any f by simp,f2]
  exact q
 ·obtain⟨d,r,pl,B⟩:=I.tuple j;obtain⟨f,f1,f2⟩:=hf I hK z r X.A.in1 (by lia)
  refine SeqAt.in_tupleAt f pl (λw hw=>f1 w (by simpa using hw)) ⟨.bl _,H,I,rfl,?_⟩
  rw[show d.toArray.any f=d.any f by simp,f2]
  exact q
theorem fZ0{K:Fg}(hu:X.A.units+10<bR)(hK:X.K=K:=by rfl):OpR X (cq .NotIn) (rInA K true):=by
 intro pins s σ H x y v u Q I z ry h;obtain⟨p,xs,b,rfl,j,hf,q⟩:=h;cases ry;rw[<- hK] at j;rcases j with j|j
 ·obtain⟨d,r,pl,B⟩:=I.list j;obtain⟨f,f1,f2⟩:=hf I hK z r X.A.in1 (by lia)
  refine SeqAt.notIn_listAt f pl.isList (λw hw=>f1 w (by simpa using hw)) ⟨.bl _,H,I,rfl,?_⟩
  rw[show d.toArray.any f=d.any f by simp,f2]
  exact q
 ·obtain⟨d,r,pl,B⟩:=I.tuple j;obtain⟨f,f1,f2⟩:=hf I hK z r X.A.in1 (by lia)
  refine SeqAt.notIn_tupleAt f pl (λw hw=>f1 w (by simpa using hw)) ⟨.bl _,H,I,rfl,?_⟩
  rw[show d.toArray.any f=d.any f by simp,f2]
  exact q
def inD(neg:Bool):R2D:=λd e S Q=>∃xs,sqIs S e xs/\aZ2 xs=true/\(xs.all λy=>okE 8 y d)=true/\Q (.bl (if neg then !decide (d∈xs) else decide (d∈xs))) S
theorem gQt(I:Inv X pins σ H s){d:D}{x:V}{v:ad}(rx:RelV x v)(hd:RepV X.K M H d x){A:aW}(hA:A.units+9<bR):∀{xs:List V}{us:List ad}{ds:List D},RepL X.K M H ds xs->Vals xs us->aZ2 ds=true->(ds.all λy=>okE 8 y d)=true ->
  ∃f:ad->Bool,(∀u∈us,cV A s u v (f u))/\us.any f=decide (d∈ds):=by
 classical
 intro xs us ds l r p o;have key:∀{y:V}{u:ad}{e:D},e∈ds->RepV X.K M H e y->RelV y u->decide (∃y e,e∈ds/\RepV X.K M H e y/\RelV y u/\e=d)=decide (e=d):=by
  intro y u e hm he j
  congr 1
  refine propext ⟨λ⟨Y,U,G,h1,h2,N⟩=>?_,λh=>⟨y,e,hm,he,j,h⟩⟩
  have:=h2.inj j
  subst this;rw[<- N];exact cXe I (aJr p e hm) (aJr p U G) he h1
 refine⟨λu=>decide (∃y e,e∈ds/\RepV X.K M H e y/\RelV y u/\e=d),?_,?_⟩
 ·intro u hu;obtain⟨i,hi,rfl⟩:=bf hu;have h1:=r.length;have h2:=l.length;obtain⟨e,O,re⟩:=l.get' (ah (show i<xs.length by lia))
  obtain⟨Z,eu,j⟩:=r.get (ah (show i<xs.length by lia))
  rw[ah hi] at eu;cases eu;have hm:=bS O;show cV A s us[i] v (decide (∃y e,e∈ds/\RepV X.K M H e y/\RelV y us[i]/\e=d));rw[key hm re j];exact(eq3 I 8 (by lia) re hd j rx (ba.mp o e hm)).eq
 ·have gen:∀{zs:List V}{ws:List ad}{es:List D},RepL X.K M H es zs->Vals zs ws->(∀e∈es,e∈ds)->ws.any (λu=>decide (∃y e,e∈ds/\RepV X.K M H e y/\RelV y u/\e=d))=decide (d∈es):=by
   intro zs ws es
   induction es generalizing zs ws with
   |nil =>
    intro l r _;subst l;cases r;simp
   |cons e es L =>
    intro l r hm;obtain⟨z,zs,rfl,B,J⟩:=l;cases r with
    |cons q t =>
     rw[gJ,key (hm e aj) B q,L J t λe he=>hm e (ak _ he)]
     by_cases h:e=d
     ·simp[h]
     ·have h':¬ d=e:=λz=>h z.symm;simp[h,h']
  exact gen l r λ_ h=>h
theorem fZ1{K:Fg}:OpD K (rInA K neg) (inD neg):=by
 intro F S H d e x y Q QD r hd he ⟨ds,hs,p,o,q⟩ c;obtain⟨a,xs,rfl,sq,l⟩:=hs.sq r he;refine⟨a,xs,decide (d∈ds),rfl,sq,λ{X pins σ s} I B {v us} j z A D=>?_,c.bl r q⟩;subst B;exact gQt I j hd D l z p o
variable{K:Fg}{a b:Expr}{ta tb:ED}{pos:Pos}{k:Nat}
theorem lt10(r:Room k A)(h:n<=64:=by decide):A.units+n<bR:=by have:=r.units;lia
theorem e_eq(hr:Room k X.A)(ha:PD K X a ta)(hb:PD K X b tb)(hK:X.K=K:=by rfl):PD K X (.Compare a [.Eq] [b] pos) (dOp (eqD false) ta tb):=eQv (eXp (lt10 hr) hK) fQz ha hb (nomark _)
theorem dZu(hr:Room k X.A)(ha:PD K X a ta)(hb:PD K X b tb)(hK:X.K=K:=by rfl):PTD K X (.Compare a [.Eq] [b] pos) (aXq (dOp (eqD false) ta tb)):=aXs (eXp (lt10 hr) hK) fQz ha hb (nomark _)
theorem cJz(hr:Room k X.A)(ha:PD K X a ta)(hb:PD K X b tb)(hK:X.K=K:=by rfl):PTD K X (.Compare a [.NotEq] [b] pos) (aXq (dOp (eqD true) ta tb)):=aXs (gQs (lt10 hr) hK) fQz ha hb (nomark _)
theorem e_in(hr:Room k X.A)(ha:PD K X a ta)(hb:PD K X b tb)(hm:eE .In b=false:=by rfl)(hK:X.K=K:=by rfl):PD K X (.Compare a [.In] [b] pos) (dOp (inD false) ta tb):=eQv (eXq (lt10 hr) hK) fZ1 ha hb hm
theorem gQu(hr:Room k X.A)(ha:PD K X a ta)(hb:PD K X b tb)(hm:eE .In b=false:=by rfl)(hK:X.K=K:=by rfl):PTD K X (.Compare a [.In] [b] pos) (aXq (dOp (inD false) ta tb)):=aXs (eXq (lt10 hr) hK) fZ1 ha hb hm
theorem cQ5(hr:Room k X.A)(ha:PD K X a ta)(hb:PD K X b tb)(hm:eE .NotIn b=false:=by rfl)(hK:X.K=K:=by rfl):PTD K X (.Compare a [.NotIn] [b] pos) (aXq (dOp (inD true) ta tb)):=aXs (fZ0 (lt10 hr) hK) fZ1 ha hb hm
end
end L2
namespace HT
open PySem PySem.Spec PyProof.Rows
section
variable{prog:aA}{w:aO}{A:aW}{E:ad->ai->Prop}{s:ai}
theorem tup_slice(ht:gV s.heap t items)(hTs:s.TypeIs (.ref sl) "slice")
    (h:∀ A,aD (aE prog w) A (dH (.ref sl) (pure items.size)) (λr s'=>s'=s /\
      ((r.1=0 /\ r.2.1=1 /\ r.2.2=items.size /\ Q (.ref t) s) \/
       (¬ (r.1==0&&r.2.1==1&&r.2.2==items.size)=true/\sizeOk (.seq ((aI r.2.2).filterMap λ(k:Nat)=>items[(r.1+k*r.2.1).toNat]?).toArray)/\Q (.ref s.heap.objs.size) {s with heap:=s.heap.push {cls:=.type "tuple",data:=.seq ((aI r.2.2).filterMap λ(k:Nat)=>items[(r.1+k*r.2.1).toNat]?).toArray}}))) E s) :
    aD (aE prog w) A (hU (.ref t) (.ref sl)) Q E s:=by
  unfold hU
  try with_reducible refine bF ?_
  first|refine aa (ag ?_)|skip
  refine aa (wpAny_sequenceKey ht.typeIs (by decide) ?_)
  refine aa (dA ht.typeIs cg
    (cU cg ht.typeIs entry_tuple_getitem ?_ (args_tuple_getitem _ _)))
  show aD _ _ (jp (.ref t)>>=_) _ _ s;refine aa (tupleItemsOf_ ht (aa (hW hTs ?_)));rw [if_pos (by decide)]
  refine aa (cO (h _) (λr s' ⟨e,q⟩=>?_) λ_ _ x=>x);subst e;obtain⟨lo,st,n⟩:=r;show aD _ _ (if (lo==0&&st==1&&n==items.size)=true then _ else _) _ _ _
  rcases q with⟨h1,h2,z,q⟩|⟨j,d,q⟩
  · have G:lo=0:=h1
    have D:st=1:=h2;have B:n=items.size:=z;rw [if_pos (by rw [G,D,B]; simp)]
    refine aa (aa (hW ht.typeIs (ag ?_)));rw [if_pos (by decide)]
    refine aa (en ?_)
    first
      |exact ag ⟨_,rfl,ag q⟩
      |exact aa (ag ⟨_,rfl,ag q⟩)
      |exact aa (ag (ag ⟨_,rfl,ag q⟩))
  · rw [if_neg j]
    first
      |exact aa (bC (ag ⟨_,rfl,ag q⟩) d)
      |exact aa (bC (aa (ag (ag ⟨_,rfl,ag q⟩))) d)
      |exact aa (aa (bC (ag (ag ⟨_,rfl,ag q⟩)) d))
      |exact aa (aa (bC (ag ⟨_,rfl,ag q⟩) d))
theorem rev_applied{n:Nat}(hs:s.heap.IsSliceOf sl .none .none vs)(ps:kg vs (some (-1)))
  (h:Q (n-1,-1,n) s):aD (aE prog w) A (dH (.ref sl) (pure n)) Q E s:=by
 obtain⟨os,d,z,j⟩:=id hs;refine aa (aa (eF d j rfl (aa (eF d j rfl (aa (eF d j rfl (ag ?_)))))));refine aa (aJk ps ?_);rw[if_neg (by decide)]
 refine aa (jn (aa (jn (aa (ag ?_)))));show aD _ _ (pure (((n:Int)-1),(-1),cN (n-1) (-1) (-1))) _ _ s;have e:cN (n-1) (-1) (-1)=n:=by
  unfold cN;rw[if_neg (by decide)]
  rw[show(-(-1))=1 from rfl,kf]
  split <;> lia
 rw[e];exact ag h
theorem dZv{α:Type}{f:Nat->Option α}{g:∀k,k<n->α}(hf:∀k (h:k<n),f k=some (g k h)):∀(l:List Nat) (h:∀k∈l,k<n),l.filterMap f=l.pmap g h
 |[],_=>rfl
 |k::l,h=>by
  rw[ce,hf k (h k aj),List.pmap_cons,dZv hf l λk d=>h k (ak _ d)]
theorem rev_pick{α:Type}(xs:Array α):((aI xs.size).filterMap λ(k:Nat)=>xs[((xs.size:Int)-1+k*(-1)).toNat]?)=xs.toList.reverse:=by
 rw[dZv (g:=λk d=>xs[xs.size-1-k]'(by lia)) (λk d=>?_) _ λk d=>aU.mp d]
 ·apply dY
  ·simp
  ·intro i h1 h2;simp
 ·have e:((xs.size:Int)-1+k*(-1)).toNat=xs.size-1-k:=by lia
  rw[e];exact eO (by lia)
end
end HT
namespace L2
open PySem PySem.Spec PyProof.Rows
section
variable{X:Cx}{K:Fg}
def rSlW(K:Fg):V->Option Int->Option Int->Hp->VK->Prop:=λx lo hi H Q=>∃a xs,x=.ref a/\SqT K H a xs/\HT.sIx xs.length 0 lo=0/\HT.sIx xs.length xs.length hi=xs.length/\Q (.ref a) H
theorem fZ2(hK:X.K=K:=by rfl):SlR X (rSlW K):=by
 subst hK;intro pins s σ H x v N L lo hi sl Q I rx hs pl pu h;obtain⟨a,xs,rfl,D,h0,G,q⟩:=h;cases rx;obtain⟨d,r,B,O⟩:=I.tuple D;have hlen:d.toArray.size=xs.length:=by rw[aq];exact r.length.symm
 obtain⟨os,j,z,J⟩:=id hs;refine⟨"tuple",_,cg.lookup,B.typeIs,HT.tup_slice B ⟨os,j,z⟩ λA=>HT.sliceApplied_gen hs pl pu ⟨rfl,.inl ⟨?_,rfl,?_,.ref a,H,I,rfl,q⟩⟩⟩
 ·rw[hlen,h0];rfl
 ·rw[hlen,h0,G];rfl
def RvR(X:Cx)(r:V->Hp->VK->Prop):Prop :=
 ∀(pins:List (Addr×Obj)) (s:ai) (σ:St) (H:Hp) (x:V) (v vs:ad) (sl:Addr) (Q:VK),Inv X pins σ H s->RelV x v->s.heap.IsSliceOf sl .none .none vs->kg vs (some (-1))->r x H Q ->
  ∃T id,typeLookup (.type T) "__getitem__"=pure (some (.builtin id))/\s.TypeIs v T/\aD (aE X.prog X.w) X.A (hU v (.ref sl)) (EP X pins σ Q) X.xe s
theorem gQv(hr:RvR X r)(he:PE X e te):PE X (.Subscript e (.Slice none none (some (.UnaryOp .USub (.Constant (.int 1) j p0) p1)) p2) pos) (fun σ H Q=>te σ H λx H1=>r x H1 Q):=by
 intro pins s σ H Q I h;refine Subscript_ (thn (he pins s σ H _ I h) λv s1 d=>?_);obtain⟨x,H1,Z,B,D⟩:=d;refine wpAny_Slice ?_;rw[evalPart_none];refine ag (ag ?_);rw[evalPart_some];refine thn (fJk eX8 eX6 pins s1 σ H1 (λv H=>H=H1/\v=.int (-1)) Z ⟨1,rfl,rfl,rfl⟩) λvs s2 d=>?_;obtain⟨y,H2,Y,z,O,N⟩:=d;subst O;subst N;obtain⟨t,rfl⟩:=z;have U:Inv X pins σ H2 {s2 with heap:=s2.heap.push {cls:=.type "slice",data:=.fields #[.none,.none,.int (-1) t]}}:=Y.kept λb ob q=>af _ q
 obtain⟨T,id,L,G,J⟩:=hr pins {s2 with heap:=s2.heap.push {cls:=.type "slice",data:=.fields #[.none,.none,.int (-1) t]}} σ H2 x v (.int (-1) t) s2.heap.objs.size Q U B (li ..) (.int (-1) t) D;exact tail_any G L J (by with_unfolding_all rfl)
def rRvT(K:Fg):V->Hp->VK->Prop:=λx H Q=>∃a xs,x=.ref a/\SqT K H a xs/\∀p,H p=none->Q (.ref p) (upd H p (.tup xs.reverse))
theorem gQw(hK:X.K=K:=by rfl):RvR X (rRvT K):=by
 subst hK;intro pins s σ H x v vs sl Q I rx hs ps h;obtain⟨a,xs,rfl,J,q⟩:=h;cases rx;obtain⟨d,r,D,G⟩:=I.tuple J;obtain⟨os,j,B,L⟩:=id hs;have e:=HT.rev_pick d.toArray;have hl:=r.length;refine⟨"tuple",_,cg.lookup,D.typeIs,HT.tup_slice D ⟨os,j,B⟩ λA=>HT.rev_applied hs ps ⟨rfl,.inr ⟨?_,?_,?_⟩⟩⟩
 ·intro z;rw[aV,aV] at z;exact absurd (show(-1)=1 from gX z.1.2) (by decide)
 ·show((aI d.toArray.size).filterMap λ(k:Nat)=>d.toArray[((d.toArray.size:Int)-1+k*(-1)).toNat]?).toArray.size<=sizeLine;rw[e,aq,gx];lia
 ·rw[e];refine⟨.ref s.heap.objs.size,_,I.laid (λb N q=>af _ q) (am _) ?_,rfl,q _ (I.hok.fresh (am _))⟩;exact⟨by rw[gx];exact G,_,r.reverse,gV.new _ _,bJn⟩
def rRvL(K:Fg):V->Hp->VK->Prop:=λx H Q=>∃a xs,x=.ref a/\SqL K H a xs/\∀p,H p=none->Q (.ref p) (upd H p (.lst xs.reverse))
theorem dZw(n:Nat):kz (n-1) (-1) (-1)=(aI n).map λ(k:Nat)=>((n:Int)-1+k*(-1)).toNat:=by
 have e:(if (-1)>0 then (if (n:Int)-1 < -1 then (-1-((n:Int)-1) + -1-1) / -1 else 0) else (if (n:Int)-1 > -1 then (n-1 - -1 - -1-1)/(- -1) else 0)).toNat=n:=by
  rw[if_neg (by decide),show(-(-1))=1 from rfl,kf]
  split <;> lia
 show(aI _).map _=_;rw[e];apply gy;intro k _
 congr 1
 lia
theorem rev_slice(its:List ad):slicePick its.toArray none none (some (-1))=its.reverse.toArray:=by
 unfold slicePick;have e:e8 none none (some (-1)) its.toArray.size=((its.toArray.size:Int)-1,-1,-1):=rfl;rw[e];rw[dZw,jo]
 have:=HT.rev_pick its.toArray
 exact congrArg fP this
theorem fZ3(hK:X.K=K:=by rfl):RvR X (rRvL K):=by
 subst hK;intro pins s σ H x v vs sl Q I rx hs ps h;obtain⟨a,xs,rfl,B,q⟩:=h;cases rx;obtain⟨j,r,d,z⟩:=I.list B;have hlen:=r.length;refine⟨"list",_,jI.lookup,d.isList.typeIs,?_⟩;refine wpAny_getItem_list_slice d.isList hs .none .none ps (by decide) ?_ (by rw[aq] <;> lia)
 rw[rev_slice];refine⟨.ref s.heap.objs.size,_,I.laid (λb D q=>af _ q) (am _) ?_,rfl,q _ (I.hok.fresh (am _))⟩;exact⟨by rw[gx];exact z,_,0,r.reverse,au _ rfl⟩
end
end L2
set_option maxHeartbeats 1000000
namespace L2
open PySem PySem.Spec PyProof.Rows
section
variable{X:Cx}{K:Fg}{a b:Expr}{ta tb:ED}{pos:Pos}{k:Nat}
def ltD:R2D:=λd e S Q=>match d,e with
 |.int i,.int j=>Q (.bl (decide (i<j))) S
 |.str x,.str y=>Q (.bl (HT.ltS x y)) S
 |.tup xs,.tup ys=>∃as bs,xs=as.map D.str/\ys=bs.map D.str/\Q (.bl (HT.lexS as bs)) S
 |_,_=>False
def rLtA(K:Fg):R2:=λx y H Q=>rI0 (λi j=>.bl (decide (i<j))) x y H Q\/(∃i j,x=.str i/\y=.str j/\Q (.bl (decide (i.cps.toList<j.cps.toList))) H)\/rLtS K x y H Q
theorem eXr(hu:X.A.units<bR)(hK:X.K=K:=by rfl):OpR X (cq .Lt) (rLtA K):=op_lt.or (op_lt_str.or (fQi hu hK))
theorem bZ0:∀{as:List Str}{xs:List V},RepL K M H (as.map D.str) xs->bc (dS H) xs as
 |[],xs,h=>by rw[e5] at h;subst h;exact .nil
 |a::as,xs,h=>by
  rw[a8] at h;obtain⟨v,vs,rfl,r,l⟩:=h;exact .cons r (bZ0 l)
theorem dZx:∀{as:List Str}{xs:List V},bc (dS H) xs as->RepL K M H (as.map D.str) xs
 |_,_,.nil=>RepL.nil
 |_,_,.cons r l=>RepL.cons (r) (dZx l)
theorem cZ7(h:RepV K (mt S F) H (.tup (as.map D.str)) v):dT K dS H v as:=by
 obtain⟨a,xs,rfl,t,l⟩:=tup.st h;exact⟨a,xs,rfl,t,bZ0 l⟩
theorem gQx:OpD K (rLtA K) ltD:=by
 intro F S H d e x y Q QD r hd he h c;cases d with
 |int i =>
  cases e with
  |int j=>rw[rint hd,rint he];exact .inl ⟨i,j,rfl,rfl,c.bl r h⟩
  |_=>exact h.elim
 |str i =>
  cases e with
  |str j=>rw[rstr hd,rstr he];exact .inr (.inl ⟨i,j,rfl,rfl,c.bl r h⟩)
  |_=>exact h.elim
 |tup xs =>
  cases e with
  |tup ys =>
   obtain⟨as,bs,rfl,rfl,q⟩:=h;exact .inr (.inr ⟨as,bs,cZ7 hd,cZ7 he,c.bl r q⟩)
  |_=>exact h.elim
 |_=>exact h.elim
theorem e_lt(hr:Room k X.A)(ha:PD K X a ta)(hb:PD K X b tb)(hK:X.K=K:=by rfl):PD K X (.Compare a [.Lt] [b] pos) (dOp ltD ta tb):=eQv (eXr hr.units0 hK) gQx ha hb (nomark _)
theorem cQ6(hr:Room k X.A)(ha:PD K X a ta)(hb:PD K X b tb)(hK:X.K=K:=by rfl):PTD K X (.Compare a [.Lt] [b] pos) (aXq (dOp ltD ta tb)):=aXs (eXr hr.units0 hK) gQx ha hb (nomark _)
abbrev leD:R2D:=iiD0 λi j=>.bl (decide (i<=j))
abbrev gtD:R2D:=iiD0 λi j=>.bl (decide (j<i))
abbrev geD:R2D:=iiD0 λi j=>.bl (decide (j<=i))
theorem gJp(hr:Room k X.A)(ha:PD K X a ta)(hb:PD K X b tb):PTD K X (.Compare a [.LtE] [b] pos) (aXq (dOp leD ta tb)):=aXs eQ6 cZ5 ha hb (nomark _)
theorem eQx(hr:Room k X.A)(ha:PD K X a ta)(hb:PD K X b tb):PTD K X (.Compare a [.Gt] [b] pos) (aXq (dOp gtD ta tb)):=aXs gJa cZ5 ha hb (nomark _)
theorem gJq(hr:Room k X.A)(ha:PD K X a ta)(hb:PD K X b tb):PTD K X (.Compare a [.GtE] [b] pos) (aXq (dOp geD ta tb)):=aXs gJb cZ5 ha hb (nomark _)
def cZ8:D->Bool
 |.non=>true
 |_=>false
def isD(neg:Bool):R2D:=λd e S Q=>match d,e with
 |.bl x,.bl y=>Q (.bl (if neg then x !=y else x==y)) S
 |d,.non=>Q (.bl (if neg then !cZ8 d else cZ8 d)) S
 |_,_=>False
def rIsA(neg:Bool):R2:=λx y H Q=>(∃i j,x=.bl i/\y=.bl j/\Q (.bl (if neg then i !=j else i==j)) H)\/(y=.non/\Q (.bl (if neg then !decide (x=.non) else decide (x=.non))) H)
theorem gQy:OpR X (cq .Is) (rIsA false):=OpR.or (by
 intro pins s σ H x y v u Q I rx ry h;obtain⟨i,j,rfl,rfl,q⟩:=h;cases rx;cases ry;exact is_bool ⟨.bl _,H,I,rfl,q⟩) fJp
theorem cXf:OpR X (cq .IsNot) (rIsA true):=OpR.or (by
 intro pins s σ H x y v u Q I rx ry h;obtain⟨i,j,rfl,rfl,q⟩:=h;cases rx;cases ry;exact isnot_bool ⟨.bl _,H,I,rfl,q⟩) eJn
theorem eQy(h:RepV K M H d x):decide (x=.non)=cZ8 d:=by
 cases d <;> unfold RepV at h <;> first|(rw[h];rfl)|(obtain⟨a,xs,rfl,_⟩:=h;rfl)|skip
theorem fZ4:OpD K (rIsA neg) (isD neg):=by
 intro F S H d e x y Q QD r hd he h c;have non:e=.non->QD (.bl (if neg then !cZ8 d else cZ8 d)) S->rIsA neg x y H Q:=by
  rintro rfl q;rw[rnon he];refine .inr ⟨rfl,?_⟩;rw[eQy hd];exact c.bl r q
 cases e with
 |non=>exact non rfl (by cases d <;> exact h)
 |bl j =>
  cases d with
  |bl i=>rw[rbl hd,rbl he];exact .inl ⟨i,j,rfl,rfl,c.bl r h⟩
  |_=>exact h.elim
 |_=>cases d <;> exact h.elim
theorem eQz(hr:Room k X.A)(ha:PD K X a ta)(hb:PD K X b tb):PTD K X (.Compare a [.Is] [b] pos) (aXq (dOp (isD false) ta tb)):=aXs gQy fZ4 ha hb (nomark _)
theorem dZy(hr:Room k X.A)(ha:PD K X a ta)(hb:PD K X b tb):PD K X (.Compare a [.IsNot] [b] pos) (dOp (isD true) ta tb):=eQv cXf fZ4 ha hb (nomark _)
theorem aJ0(hr:Room k X.A)(ha:PD K X a ta)(hb:PD K X b tb):PTD K X (.Compare a [.IsNot] [b] pos) (aXq (dOp (isD true) ta tb)):=aXs cXf fZ4 ha hb (nomark _)
def gJr(ta tb:ED):ED:=fun Γ S Q=>ta Γ S λx S1=>∃c,x=.bl c/\if c=true then tb Γ S1 Q else Q (.bl false) S1
def dOrV(ta tb:ED):ED:=fun Γ S Q=>ta Γ S λx S1=>∃c,x=.bl c/\if c=true then Q (.bl true) S1 else tb Γ S1 Q
theorem dZz(h:PD K X a ta):PD K X (.BoolOp op [a] pos) ta:=⟨fJa h.o⟩
theorem gQz(ha:PD K X a ta)(hb:PD K X (.BoolOp .And (b::rest) pos) tb):PD K X (.BoolOp .And (a::b::rest) pos) (gJr ta tb):=.of (fJb ha.o hb.o) fun σ H Q J=>J.el λF S Γ QD r g q c =>
 ⟨F,S,Γ,_,r,g,q,λv d H1 O j B v1 G=>by
  obtain⟨z,e,D⟩:=G;subst e;refine⟨z,rbl v1,?_⟩;cases z with
  |true=>exact⟨F,O,Γ,QD,B,g.ext j,D,λv z U N L=>c v z U N (j.trans L)⟩
  |false=>exact(Cn.shift c j).bl B D⟩
theorem e_or(ha:PD K X a ta)(hb:PD K X (.BoolOp .Or (b::rest) pos) tb):PD K X (.BoolOp .Or (a::b::rest) pos) (dOrV ta tb):=.of (gJ3 ha.o hb.o) fun σ H Q J=>J.el λF S Γ QD r g q c =>
 ⟨F,S,Γ,_,r,g,q,λv d H1 O j B v1 G=>by
  obtain⟨z,e,D⟩:=G;subst e;refine⟨z,rbl v1,?_⟩;cases z with
  |false=>exact⟨F,O,Γ,QD,B,g.ext j,D,λv z U N L=>c v z U N (j.trans L)⟩
  |true=>exact(Cn.shift c j).bl B D⟩
structure PWD(K:Fg)(X:Cx)(e:Expr)(t:TD):Prop where
 o:PW X e (upT K t)
def dAnd(t u:TD):TD:=fun Γ S Q=>t Γ S λc S1=>if c=true then u Γ S1 Q else Q false S1
def dOr(t u:TD):TD:=fun Γ S Q=>t Γ S λc S1=>if c=true then Q true S1 else u Γ S1 Q
def dNot(t:TD):TD:=fun Γ S Q=>t Γ S λc S1=>Q (!c) S1
section
variable{tA tB':TD}{rest:List Expr}
theorem PWD.pt(h:PWD K X e t):PTD K X e t:=⟨PW.pt h.o⟩
theorem PWD.of(h:PW X e te)(i:∀σ H Q,upT K t σ H Q->te σ H Q):PWD K X e t:=⟨λd pins s σ H Q I q=>h d pins s σ H Q I (i σ H Q q)⟩
theorem bZ1(ha:PTD K X a tA):PWD K X (.BoolOp .And [a] pos) tA:=⟨eJh ha.o⟩
theorem cQ7(ha:PTD K X a tA):PWD K X (.BoolOp .Or [a] pos) tA:=⟨fJ7 ha.o⟩
theorem cQ8(ha:PTD K X a tA)(hb:PWD K X (.BoolOp .And (b::rest) pos) tB'):PWD K X (.BoolOp .And (a::b::rest) pos) (dAnd tA tB'):=.of (fJ8 ha.o hb.o) fun σ H Q D=>D.el λF S Γ QD r g q c =>
 ⟨F,S,Γ,_,r,g,q,λz H1 L d j B=>by
  cases z with
  |true=>exact⟨F,L,Γ,QD,j,g.ext d,B,λz N J G=>c z N J (d.trans G)⟩
  |false=>exact c _ _ _ d j B⟩
theorem dX0(ha:PTD K X a tA)(hb:PWD K X (.BoolOp .Or (b::rest) pos) tB'):PWD K X (.BoolOp .Or (a::b::rest) pos) (dOr tA tB'):=.of (gJ1 ha.o hb.o) fun σ H Q D=>D.el λF S Γ QD r g q c =>
 ⟨F,S,Γ,_,r,g,q,λz H1 L d j B=>by
  cases z with
  |false=>exact⟨F,L,Γ,QD,j,g.ext d,B,λz N J G=>c z N J (d.trans G)⟩
  |true=>exact c _ _ _ d j B⟩
theorem aXt(ha:PTD K X a tA):PTD K X (.UnaryOp .Not a pos) (dNot tA):=.of (fJ9 ha.o) fun σ H Q d=>d.el λF S Γ QD r g q c=>⟨F,S,Γ,_,r,g,q,λz H1 G j B D=>c _ _ _ j B D⟩
def dIf(t:TD)(ta tb:ED):ED:=fun Γ S Q=>t Γ S λc S1=>if c=true then ta Γ S1 Q else tb Γ S1 Q
theorem cZ9(hc:PTD K X c tA)(ha:PD K X a ta)(hb:PD K X b tb):PD K X (.IfExp c a b pos) (dIf tA ta tb):=.of (eQ3 hc.o ha.o hb.o) fun σ H Q N=>N.el λF S Γ QD r g q c =>
 ⟨F,S,Γ,_,r,g,q,λz H1 L d G J=>by
  cases z with
  |true=>exact⟨F,L,Γ,QD,G,g.ext d,J,λv z D B j=>c v z D B (d.trans j)⟩
  |false=>exact⟨F,L,Γ,QD,G,g.ext d,J,λv z D B j=>c v z D B (d.trans j)⟩⟩
end
def truD(S:Sto)(d:D)(k:Bool->Prop):Prop:=match d with
 |.non=>k false
 |.bl b=>k b
 |.int i=>k (i !=0)
 |.str x=>x.length<=sizeLine/\k ((x.length:Int) !=0)
 |.tup xs=>k (!xs.isEmpty)
 |.lst xs=>k (!xs.isEmpty)
 |.ref a=>∃xs,S a=some (.lst xs)/\k (!xs.isEmpty)
 |.ty _=>False
def dTru(ta:ED):TD:=fun Γ S Q=>ta Γ S λd S1=>truD S1 d λb=>Q b S1
theorem cXg(l:RepL K M H ds xs):(!xs.isEmpty)=!ds.isEmpty:=by
 have:=l.length
 cases ds <;> cases xs <;> first|rfl|simp at this
theorem aJ7(ha:PD K X a ta)(he:∀whole,isTrue a X.env whole=(do let v <- whole;gn a.pos;fZ [v] (truthy v)):=by intro _;rfl)(hK:X.K=K:=by rfl):PTD K X a (dTru ta):=.of (dZi ha.o he hK) fun σ H Q G=>G.el λF S Γ QD r g q c =>
 ⟨F,S,Γ,_,r,g,q,λv d H1 D B z v1 j=>by
  cases d with
  |non=>rw[rnon v1];exact⟨false,rfl,c _ _ _ B z j⟩
  |bl b=>rw[rbl v1];exact⟨b,rfl,c _ _ _ B z j⟩
  |int b=>rw[rint v1];exact⟨_,rfl,c _ _ _ B z j⟩
  |str b=>rw[rstr v1];exact⟨_,⟨j.1,rfl⟩,c _ _ _ B z j.2⟩
  |ty b=>exact j.elim
  |tup xs =>
   obtain⟨p,us,rfl,t,l⟩:=tup.st v1;exact⟨_,.inr (.inl ⟨us,t,rfl⟩),c _ _ _ B z (by rw[cXg l];exact j)⟩
  |lst xs =>
   obtain⟨p,us,rfl,t,l⟩:=lsIs.sl z v1 (rfl)
   exact⟨_,.inl ⟨us,t,rfl⟩,c _ _ _ B z (by rw[cXg l];exact j)⟩
  |ref p =>
   obtain⟨xs,e,j⟩:=j;obtain⟨p,us,rfl,t,l⟩:=lsIs.sl z v1 (e)
   exact⟨_,.inl ⟨us,t,rfl⟩,c _ _ _ B z (by rw[cXg l];exact j)⟩⟩
section
variable{e:Expr}{t:AD}{p:Pos}
def lenD:RCD:=λds S Q=>match ds with
 |[.str x]=>x.length<=sizeLine/\Q (.int x.length) S
 |[d]=>∃xs,sqIs S d xs/\Q (.int xs.length) S
 |_=>False
theorem dX1(hK:X.K=K:=by rfl):CallR X (.builtin "len") (λxs H Q=>∃x n,xs=[x]/\LenV K x H n/\Q (.int n) H):=hK▸eQa
theorem gZ0:bZr K (λxs H Q=>∃x n,xs=[x]/\LenV K x H n/\Q (.int n) H) lenD:=by
 intro F S H ds vs Q QD r l h c
 match ds,h with
 |[d],h =>
  obtain⟨v,rfl,j⟩:=l.one;have seq:(∃xs,sqIs S d xs/\QD (.int xs.length) S)->∃x n,[v]=[x]/\LenV K x H n/\Q (.int n) H:=by
   rintro⟨xs,h1,q⟩;obtain⟨a,us,rfl,sq,l⟩:=h1.sq r j;refine⟨_,xs.length,rfl,?_,c.int r q⟩;rcases sq with sq|sq
   ·exact .inl ⟨us,sq,l.length.symm⟩
   ·exact .inr ⟨us,sq,l.length.symm⟩
  cases d with
  |str x=>rw[rstr j];exact⟨_,x.length,rfl,⟨h.1,rfl⟩,c.int r h.2⟩
  |_=>exact seq h
 |[],h=>exact h.elim
 |d::_::_,h=>cases d <;> exact h.elim
theorem aQs(hg:Gl X "len")(hm:X.mg "len"=none)(ha:PAD K X [e] t)(hK:X.K=K:=by rfl)(he:az [e] X.env=(false,eval e X.env)::az [] X.env:=by rfl)(hpl:(cC pos (az [] X.env)).any (·.1)=false:=by rfl):PD K X (.Call (.Name "len" p) [e] [] pos) (dCB lenD t):=aXz (dX1 hK) gZ0 hg hm dQv ha (by decide) (by decide) he hpl
def tupD:RCD:=λds S Q=>match ds with
 |[d]=>∃xs,sqIs S d xs/\Q (.tup xs) S
 |_=>False
theorem gZ1:bZr K (λxs H Q=>∃p ys,xs=[.ref p]/\((SqL K H p ys/\∀l,H l=none->Q (.ref l) (upd H l (.tup ys)))\/(SqT K H p ys/\Q (.ref p) H))) tupD:=by
 intro F S H ds vs Q QD r l h c
 match ds,h with
 |[d],⟨xs,h1,q⟩ =>
  obtain⟨v,rfl,j⟩:=l.one;cases d with
  |tup ys =>
   cases h1;obtain⟨a,us,rfl,sq,l⟩:=tup.st j;exact⟨a,us,rfl,.inr ⟨sq,c.here r j q⟩⟩
  |lst ys =>
   obtain⟨a,us,rfl,sq,l⟩:=lsIs.sl r j (h1)
   exact⟨a,us,rfl,.inl ⟨sq,λp z=>c.tup r z l q⟩⟩
  |ref y =>
   obtain⟨a,us,rfl,sq,l⟩:=lsIs.sl r j (h1)
   exact⟨a,us,rfl,.inl ⟨sq,λp z=>c.tup r z l q⟩⟩
  |_=>exact h1.elim
theorem aZ3(hg:Gl X "tuple")(hm:X.mg "tuple"=none)(ha:PAD K X [e] t)(hK:X.K=K:=by rfl)(he:az [e] X.env=(false,eval e X.env)::az [] X.env:=by rfl)(hpl:(cC pos (az [] X.env)).any (·.1)=false:=by rfl):PD K X (.Call (.Name "tuple" p) [e] [] pos) (dCB tupD t):=bXv (cZ0 hK) gZ1 hg hm eQf ha (by decide) (by decide) he hpl
def lstD(b:Bool):RCD:=λds S Q=>match ds with
 |[d]=>∃xs,sqIs S d xs/\newL b xs S Q
 |_=>False
theorem gZ2{b:Bool}:bZr K (λxs H Q=>∃p ys,xs=[.ref p]/\(SqL K H p ys\/SqT K H p ys)/\∀l,H l=none->Q (.ref l) (upd H l (.lst ys))) (lstD b):=by
 intro F S H ds vs Q QD r l h c
 match ds,h with
 |[d],⟨xs,h1,q⟩ =>
  obtain⟨v,rfl,j⟩:=l.one;obtain⟨a,us,rfl,sq,l⟩:=h1.sq r j;exact⟨a,us,rfl,sq,λp z=>c.new r z l q⟩
theorem cQ9{b:Bool}(hg:Gl X "list")(hm:X.mg "list"=none)(ha:PAD K X [e] t)(hK:X.K=K:=by rfl)(he:az [e] X.env=(false,eval e X.env)::az [] X.env:=by rfl)(hpl:(cC pos (az [] X.env)).any (·.1)=false:=by rfl):PD K X (.Call (.Name "list" p) [e] [] pos) (dCB (lstD b) t):=bXv (cJw hK) gZ2 hg hm dQw ha (by decide) (by decide) he hpl
def i2D(g:Int->Int->Int):RCD:=λds S Q=>match ds with
 |[.int i,.int j]=>Q (.int (g i j)) S
 |_=>False
theorem gJs:bZr K (λxs H Q=>∃i j,xs=[.int i,.int j]/\Q (.int (g i j)) H) (i2D g):=by
 intro F S H ds vs Q QD r l h c
 match ds,h with
 |[.int i,.int j],h =>
  obtain⟨v,w,rfl,z,d⟩:=l.two;rw[rint z,rint d];exact⟨i,j,rfl,c.int r h⟩
theorem gZ3{e2:Expr}(hg:Gl X "min")(hm:X.mg "min"=none)(ha:PAD K X [e,e2] t)(hc:X.calm=true:=by rfl)(he:az [e,e2] X.env=(false,eval e X.env)::az [e2] X.env:=by rfl)(hpl:(cC pos (az [e2] X.env)).any (·.1)=false:=by rfl):PD K X (.Call (.Name "min" p) [e,e2] [] pos) (dCB (i2D λi j=>if j<i then j else i) t):=aXz (dQm hc) gJs hg hm fJz ha (by decide) (by decide) he hpl
theorem cXh:∀{bs:List Bool}{xs:List V},RepL K M H (bs.map D.bl) xs->bc (dB H) xs bs
 |[],xs,h=>by rw[e5] at h;subst h;exact .nil
 |a::as,xs,h=>by
  rw[a8] at h;obtain⟨v,vs,rfl,r,l⟩:=h;exact .cons r (cXh l)
def quD(g:List Bool->Bool):RCD:=λds S Q=>match ds with
 |[d]=>∃bs,lsIs S d (bs.map D.bl)/\Q (.bl (g bs)) S
 |_=>False
theorem gZ4:bZr K (λxs H Q=>∃x bs,xs=[x]/\dL K dB H x bs/\Q (.bl (g bs)) H) (quD g):=by
 intro F S H ds vs Q QD r l h c
 match ds,h with
 |[d],⟨bs,h1,q⟩ =>
  obtain⟨v,rfl,j⟩:=l.one;obtain⟨a,us,rfl,sq,l⟩:=lsIs.sl r j h1;exact⟨_,bs,rfl,⟨a,us,rfl,sq,cXh l⟩,c.bl r q⟩
theorem eZ0(hg:Gl X "all")(hm:X.mg "all"=none)(ha:PAD K X [e] t)(hK:X.K=K:=by rfl)(hc:X.calm=true:=by rfl)(he:az [e] X.env=(false,eval e X.env)::az [] X.env:=by rfl)(hpl:(cC pos (az [] X.env)).any (·.1)=false:=by rfl):PD K X (.Call (.Name "all" p) [e] [] pos) (dCB (quD λbs=>bs.all id) t):=aXz (dZg hK hc) gZ4 hg hm gQ0 ha (by decide) (by decide) he hpl
theorem gJt(hg:Gl X "any")(hm:X.mg "any"=none)(ha:PAD K X [e] t)(hK:X.K=K:=by rfl)(hc:X.calm=true:=by rfl)(he:az [e] X.env=(false,eval e X.env)::az [] X.env:=by rfl)(hpl:(cC pos (az [] X.env)).any (·.1)=false:=by rfl):PD K X (.Call (.Name "any" p) [e] [] pos) (dCB (quD λbs=>bs.any id) t):=aXz (dZh hK hc) gZ4 hg hm gQ1 ha (by decide) (by decide) he hpl
end
def ixD:R2D:=λd e S Q=>match d,e with
 |.str z,.int i=>z.length<=sizeLine/\∃c,atI z.cps.toList i=some c/\Q (.str ⟨#[c]⟩) S
 |d,.int i=>∃xs v,sqIs S d xs/\atI xs i=some v/\Q v S
 |_,_=>False
theorem gJu(l:RepL K M H ds xs){i:Int}{d:D}(h:atI ds i=some d):∃v,atI xs i=some v/\RepV K M H d v:=by
 unfold atI at h ⊢;rw[l.length];cases hi:ixN ds.length i with
 |none=>rw[hi] at h;cases h
 |some j=>rw[hi] at h;exact l.get h
theorem gJv:OpD K (rIx K) ixD:=by
 intro F S H d e x y Q QD r hd he h c;have seq:∀i,e=.int i->(∃xs v,sqIs S d xs/\atI xs i=some v/\QD v S)->rIx K x y H Q:=by
  rintro i rfl ⟨xs,v,h1,h2,q⟩;obtain⟨a,us,rfl,sq,l⟩:=h1.sq r hd;obtain⟨u,B,j⟩:=gJu l h2;rw[rint he];rcases sq with sq|sq
  ·exact .inl ⟨a,us,i,u,rfl,rfl,sq,B,c.here r j q⟩
  ·exact .inr (.inl ⟨a,us,i,u,rfl,rfl,sq,B,c.here r j q⟩)
 cases e with
 |int i =>
  cases d with
  |str z =>
   obtain⟨h1,w,h2,q⟩:=h;rw[rstr hd,rint he];exact .inr (.inr ⟨z,i,w,rfl,rfl,h1,h2,c.str r q⟩)
  |_=>exact seq i rfl h
 |_=>cases d <;> exact h.elim
theorem fZ5(hK:X.K=K:=by rfl):IxR X (rIx K):=hK▸fJx
theorem e_ix(ha:PD K X a ta)(hb:PD K X b tb)(hs:PlainIx b:=by exact λ_ _=>rfl)(hK:X.K=K:=by rfl):PD K X (.Subscript a b pos) (dOp ixD ta tb):=.of (pe_ix (fZ5 hK) ha.o hb.o hs) (eQu gJv)
abbrev OD:=Gm->Sto->(Option Int->Sto->Prop)->Prop
def upO(K:Fg)(t:OD):TO:=fun σ H Q=>∃F S Γ QD,Rp K F S H/\RepG K (mt S F) H Γ σ/\t Γ S QD/\∀o H' S',Ext S H S' H'->Rp K F S' H'->QD o S'->Q o H'
theorem upO.el{p:Prop}(h:upO K t σ H Q)(k:∀F S Γ QD,Rp K F S H->RepG K (mt S F) H Γ σ->t Γ S QD->(∀o H' S',Ext S H S' H'->Rp K F S' H'->QD o S'->Q o H')->p):p:=by
 obtain⟨F,S,Γ,QD,h0,h1,h2,d⟩:=h;exact k F S Γ QD h0 h1 h2 d
structure POD(K:Fg)(X:Cx)(e:Option Expr)(t:OD):Prop where
 o:PO X e (upO K t)
def fZ6:OD:=λ_ S Q=>Q none S
def gJw(t:ED):OD:=fun Γ S Q=>t Γ S λd S1=>∃i,d=.int i/\Q (some i) S1
theorem aZh:POD K X none fZ6:=⟨λpins s σ H Q I d=>d.el λF S Γ QD r g q c=>eJt pins s σ H Q I (c none H S (Ext.refl _ _) r q)⟩
theorem aZ4(h:PD K X a ta):POD K X (some a) (gJw ta):=⟨λpins s σ H Q I z=>z.el λF S Γ QD r g q c=>eJu h.o pins s σ H Q I ⟨F,S,Γ,_,r,g,q,λv d H1 J B D v1 j=>by
 obtain⟨i,e,G⟩:=j;subst e;exact⟨i,rint v1,c _ _ _ B D G⟩⟩⟩
def cutD(xs:List D)(lo hi:Option Int):List D:=(xs.drop (HT.sIx xs.length 0 lo)).take (HT.sIx xs.length xs.length hi-HT.sIx xs.length 0 lo)
def slD(b:Bool)(d:D)(lo hi:Option Int)(S:Sto)(Q:DK):Prop:=match d with
 |.str z=>z.length<=1000000/\Q (.str (cutS z lo hi)) S
 |.tup xs=>Q (.tup (cutD xs lo hi)) S
 |d=>∃xs,lsIs S d xs/\newL b (cutD xs lo hi) S Q
def rSlA(K:Fg):V->Option Int->Option Int->Hp->VK->Prop:=λx lo hi H Q=>rSlS x lo hi H Q\/rSlT K x lo hi H Q\/rSlW K x lo hi H Q\/rSlL K x lo hi H Q
theorem sl_A(hK:X.K=K:=by rfl):SlR X (rSlA K):=sl_str.or ((fQh hK).or ((fZ2 hK).or (eQm hK)))
theorem eZ1(xs:List D){lo hi:Option Int}(h0:HT.sIx xs.length 0 lo=0)(h1:HT.sIx xs.length xs.length hi=xs.length):cutD xs lo hi=xs:=by unfold cutD;rw[h0,h1];simp
theorem eXs(l:RepL K M H ds xs)(lo hi:Option Int):RepL K M H (cutD ds lo hi) (cutV xs lo hi):=by
 unfold cutD cutV;rw[l.length];exact(l.drop _).take _
theorem sd_A{b:Bool}:∀F S H d x lo hi Q QD,Rp K F S H->RepV K (mt S F) H d x->slD b d lo hi S QD->Cn K F S H QD Q->rSlA K x lo hi H Q:=by
 intro F S H d x lo hi Q QD r hd h c;have lists:(∃xs,lsIs S d xs/\newL b (cutD xs lo hi) S QD)->rSlA K x lo hi H Q:=by
  rintro⟨xs,D,q⟩;obtain⟨a,us,rfl,s1,j⟩:=lsIs.sl r hd D;exact .inr (.inr (.inr ⟨a,us,rfl,s1,λp B=>c.new r B (eXs j lo hi) q⟩))
 cases d with
 |str z=>rw[rstr hd];exact .inl ⟨z,rfl,h.1,c.str r h.2⟩
 |tup xs =>
  obtain⟨a,us,rfl,s1,j⟩:=tup.st hd
  by_cases hw:HT.sIx us.length 0 lo=0/\HT.sIx us.length us.length hi=us.length
  ·refine .inr (.inr (.inl ⟨a,us,rfl,s1,hw.1,hw.2,c.here r hd ?_⟩));rw[j.length] at hw;have h':QD (.tup (cutD xs lo hi)) S:=h;rwa [eZ1 xs hw.1 hw.2] at h'
  ·exact .inr (.inl ⟨a,us,rfl,s1,hw,λp B=>c.tup r B (eXs j lo hi) h⟩)
 |_=>exact lists h
def dSl(b:Bool)(te:ED)(tl th:OD):ED:=fun Γ S Q=>te Γ S λd S1=>tl Γ S1 λlo S2=>th Γ S2 λhi S3=>slD b d lo hi S3 Q
theorem e_sl{b:Bool}{lo hi:Option Expr}(he:PD K X e te)(hl:POD K X lo tl)(hu:POD K X hi th)(hK:X.K=K:=by rfl):PD K X (.Subscript e (.Slice lo hi none p2) pos) (dSl b te tl th):=.of (eQc (sl_A hK) he.o hl.o hu.o) fun σ H Q D=>D.el λF S Γ QD r g q c =>
 ⟨F,S,Γ,_,r,g,q,λv d H1 S1 z L v1 U=>⟨F,S1,Γ,_,L,g.ext z,U,λl H2 Z j J O=>⟨F,Z,Γ,_,J,g.ext (z.trans j),O,λu H3 Y B G N=>sd_A F Y H3 d v l u Q QD G (v1.ext (j.trans B)) N (Cn.shift c (z.trans (j.trans B)))⟩⟩⟩
def rvD(b:Bool)(d:D)(S:Sto)(Q:DK):Prop:=match d with
 |.tup xs=>Q (.tup xs.reverse) S
 |d=>∃xs,lsIs S d xs/\newL b xs.reverse S Q
theorem RepL.rev(l:RepL K M H ds xs):RepL K M H ds.reverse xs.reverse:=by
 have app:∀{ds:List D}{xs:List V}{es:List D}{ys:List V},RepL K M H ds xs->RepL K M H es ys->RepL K M H (ds.reverse++es) (xs.reverse++ys):=by
  intro ds
  induction ds with
  |nil=>intro xs es ys l j;subst l;exact j
  |cons d ds z =>
   intro xs es ys l j;obtain⟨v,vs,rfl,r,l⟩:=l;rw[hZ,hZ,cL,cL];exact z l (RepL.cons r j)
 simpa using app l RepL.nil
theorem RvR.or(h:RvR X r)(h':RvR X r'):RvR X (λx H Q=>r x H Q\/r' x H Q):=by
 intro pins s σ H x v vs sl Q I d hs ps q;rcases q with q|q
 ·exact h pins s σ H x v vs sl Q I d hs ps q
 ·exact h' pins s σ H x v vs sl Q I d hs ps q
def dRv(b:Bool)(te:ED):ED:=fun Γ S Q=>te Γ S λd S1=>rvD b d S1 Q
theorem e_rv{b:Bool}(he:PD K X e te)(hK:X.K=K:=by rfl):PD K X (.Subscript e (.Slice none none (some (.UnaryOp .USub (.Constant (.int 1) j p0) p1)) p2) pos) (dRv b te):=.of (gQv ((gQw hK).or (fZ3 hK)) he.o) fun σ H Q L=>L.el λF S Γ QD r g q c =>
 ⟨F,S,Γ,_,r,g,q,λv d H1 J D z v1 G=>by
  have lists:(∃xs,lsIs J d xs/\newL b xs.reverse J QD)->rRvT K v H1 Q\/rRvL K v H1 Q:=by
   rintro⟨xs,N,q⟩;obtain⟨a,us,rfl,s1,p1⟩:=lsIs.sl z v1 N;exact .inr ⟨a,us,rfl,s1,λp B=>(Cn.shift c D).new z B p1.rev q⟩
  cases d with
  |tup xs =>
   obtain⟨a,us,rfl,s1,p1⟩:=tup.st v1;exact .inl ⟨a,us,rfl,s1,λp B=>(Cn.shift c D).tup z B p1.rev G⟩
  |_=>exact lists G⟩
end
end L2
set_option maxHeartbeats 4000000
namespace L2
open PySem PySem.Spec PyProof.Rows
section
variable{X:Cx}{K:Fg}{a b:Expr}{ta tb:ED}{pos:Pos}{k:Nat}
abbrev GD:=D->Gm->Sto->(Gm->Sto->Prop)->Prop
abbrev GsD:=List D->Gm->Sto->(Gm->Sto->Prop)->Prop
def upG(K:Fg)(t:GD):TG:=λv σ H Q=>∃F S Γ d QD,Rp K F S H/\RepG K (mt S F) H Γ σ/\RepV K (mt S F) H d v/\t d Γ S QD/\∀Γ' S' σ' H',Ext S H S' H'->Rp K F S' H'->RepG K (mt S' F) H' Γ' σ'->QD Γ' S'->Q σ' H'
theorem upG.el{p:Prop}(h:upG K t v σ H Q)(k:∀F S Γ d QD,Rp K F S H->RepG K (mt S F) H Γ σ->RepV K (mt S F) H d v->t d Γ S QD->(∀Γ' S' σ' H',Ext S H S' H'->Rp K F S' H'->RepG K (mt S' F) H' Γ' σ'->QD Γ' S'->Q σ' H')->p):p:=by
 obtain⟨F,S,Γ,d,QD,h0,h1,h2,z,j⟩:=h;exact k F S Γ d QD h0 h1 h2 z j
def upGs(K:Fg)(t:GsD):TGs:=λvs σ H Q=>∃F S Γ ds QD,Rp K F S H/\RepG K (mt S F) H Γ σ/\RepL K (mt S F) H ds vs/\t ds Γ S QD/\∀Γ' S' σ' H',Ext S H S' H'->Rp K F S' H'->RepG K (mt S' F) H' Γ' σ'->QD Γ' S'->Q σ' H'
theorem upGs.el{p:Prop}(h:upGs K t vs σ H Q)(k:∀F S Γ ds QD,Rp K F S H->RepG K (mt S F) H Γ σ->RepL K (mt S F) H ds vs->t ds Γ S QD->(∀Γ' S' σ' H',Ext S H S' H'->Rp K F S' H'->RepG K (mt S' F) H' Γ' σ'->QD Γ' S'->Q σ' H')->p):p:=by
 obtain⟨F,S,Γ,ds,QD,h0,h1,h2,j,d⟩:=h;exact k F S Γ ds QD h0 h1 h2 j d
structure PGD(K:Fg)(X:Cx)(e:Expr)(t:GD):Prop where
 o:PG X e (upG K t)
structure PGsD(K:Fg)(X:Cx)(es:List Expr)(t:GsD):Prop where
 o:PGs X es (upGs K t)
theorem PGD.of(h:PG X e te)(i:∀v σ H Q,upG K t v σ H Q->te v σ H Q):PGD K X e t:=⟨λpins s σ H v u Q I r q=>h pins s σ H v u Q I r (i v σ H Q q)⟩
theorem PGsD.of(h:PGs X e te)(i:∀v σ H Q,upGs K t v σ H Q->te v σ H Q):PGsD K X e t:=⟨λpins s σ H v u Q I r q=>h pins s σ H v u Q I r (i v σ H Q q)⟩
def aZp(i:Nat):GD:=λd Γ S Q=>Q (Γ.set i (some d)) S
theorem aZ5(hN:X.N.Nodup)(hi:X.N[i]?=some x)(hx:Loc X.env.scope x)(hf:X.fn x=true\/X.env.scope.names.lookup x=some .local:=by first|exact .inl rfl|exact .inr rfl|assumption):PGD K X (.Name x pos) (aZp i) :=
 .of (aQa hN hi hx hf) λv σ H Q j=>j.el λF S Γ d QD r g z q c=>c _ S _ H (Ext.refl _ _) r (g.set z i) q
def gZ5:GsD:=λds Γ S Q=>ds=[]/\Q Γ S
def dX2(t:GD)(u:GsD):GsD:=λds Γ S Q=>match ds with
 |[]=>False
 |d::r=>t d Γ S fun Γ' S'=>u r Γ' S' Q
def gZ6(n:Nat)(t:GsD):GD:=λd Γ S Q=>match d with
 |.tup ds=>ds.length=n/\t ds Γ S Q
 |_=>False
theorem dX3:PGsD K X [] gZ5:=.of dQg λv σ H Q d=>by
 obtain⟨F,S,Γ,ds,QD,r,g,l,⟨e,q⟩,c⟩:=d;subst e;exact⟨l,c _ S _ H (Ext.refl _ _) r g q⟩
theorem bQc{e:Expr}{es:List Expr}{t:GD}{u:GsD}(h1:PGD K X e t)(h2:PGsD K X es u)(ha:(fk (e::es) X.env).map (·.2)=jN e X.env::(fk es X.env).map (·.2):=by rfl):PGsD K X (e::es) (dX2 t u) :=
 .of (bXg h1.o h2.o ha) λvs σ H Q z=>z.el λF S Γ ds QD r g l q c=>by
  cases ds with
  |nil=>exact q.elim
  |cons d ds =>
   obtain⟨v,vs,rfl,D,l⟩:=l;exact⟨v,vs,rfl,F,S,Γ,d,_,r,g,D,q,fun Γ1 N σ1 H1 j G g1 J=>⟨F,N,Γ1,ds,_,G,g1,l.ext j,J,fun Γ2 L σ2 H2 B=>c Γ2 L σ2 H2 (j.trans B)⟩⟩
theorem eXt{es:List Expr}{kk:Nat}{t:GsD}{n:Nat}(hc:X.calm=true)(h:PGsD K X es t)(hK:X.K=K:=by rfl)
  (hn:(fk es X.env).length=n:=by rfl) (hst:(fk es X.env).findIdx? (·.1)=none:=by rfl):PGD K X (.Tuple es kk pos) (gZ6 n t) :=
 .of (eX7 hc h.o hn hst) λv σ H Q j=>j.el λF S Γ d QD r g z q c=>by
  cases d with
  |tup ds =>
   obtain⟨p,us,rfl,sq,l⟩:=tup.st z;exact⟨p,us,rfl,by rw[hK];exact sq,by rw[l.length];exact q.1,F,S,Γ,ds,_,r,g,l,q.2,c⟩
  |_=>exact q.elim
def setD(o i v:D)(S:Sto)(Q:Sto->Prop):Prop:=match o,i with
 |.ref p,.int k=>∃xs j,S p=some (.lst xs)/\ixN xs.length k=some j/\Q (supd S p (.lst (xs.set j v)))
 |_,_=>False
def gdSub(to ti:ED):GD:=λv Γ S Q=>to Γ S λo S1=>ti Γ S1 λi S2=>setD o i v S2 λS3=>Q Γ S3
theorem bX5{o i:Expr}{to ti:ED}(ho:PD K X o to)(hi:PD K X i ti)
  (ha:∀ v,jN (.Subscript o i pos) X.env v=(do
   let ov <- fZ [v] (eval o X.env)
   let iv <- fZ [v,ov] (eval i X.env)
   gn pos
   fZ [v,ov,iv] (setItem ov iv v)
   release [v,ov,iv] []):=by intro _;rfl):PGD K X (.Subscript o i pos) (gdSub to ti) :=
 .of (fJd ho.o hi.o eQd ha) λv σ H Q Z=>Z.el λF S Γ d QD r g rv q c =>
  ⟨F,S,Γ,_,r,g,q,λov od H1 S1 J r1 v1 q1=>⟨F,S1,Γ,_,r1,g.ext J,q1,λiv id H2 O G U v2 N=>by
   have L:=v1.ext G;cases od with
   |ref p =>
    cases id with
    |int kk =>
     obtain⟨xs,j,Y,hj,q3⟩:=N;obtain⟨us,hH,l⟩:=U.obj p _ Y;rw[rref L,rint v2];have B:O p≠none:=by rw[Y];exact λz=>by cases z
     have D:Ext O H2 (supd O p (.lst (xs.set j d))) (upd H2 p (.lst (us.set j v))):=Ext.write B;refine⟨p,us,kk,j,rfl,rfl,hH,by rw[l.length];exact hj,?_⟩
     refine c Γ _ σ _ (J.trans (G.trans D)) (U.write B ⟨_,aQ9,?_⟩) (g.ext (J.trans (G.trans D))) q3;exact RepL.set (rv.ext (J.trans (G.trans D))) j (l.ext D)
    |_=>exact N.elim
   |_=>exact N.elim⟩⟩
def gJx:SD:=λE Γ S=>E.nx Γ S
def dSeq(t u:SD):SD:=λE Γ S=>t {E with nx:=u E} Γ S
def dAsg(te:ED)(g:GD):SD:=λE Γ S=>te Γ S λd S1=>g d Γ S1 E.nx
def gJy(te:ED):SD:=λE Γ S=>te Γ S λ_ S1=>E.nx Γ S1
def dRet(te:ED):SD:=λE Γ S=>te Γ S E.rt
def dIfS(c:TD)(t u:SD):SD:=λE Γ S=>c Γ S λb S1=>if b=true then t E Γ S1 else u E Γ S1
section
variable{st:Stmt}{rest:List Stmt}{t u:SD}
theorem aQh:PSsD K X [] gJx:=.of eJi λj σ H d=>d.el λF S Γ E r g q c=>c.nx Γ S σ H (Ext.refl _ _) r g q
theorem aQ2(h1:PSD K X st t)(h2:PSsD K X rest u):PSsD K X (st::rest) (dSeq t u):=.of (cZt h1.o h2.o) λG σ H d=>d.el λF S Γ E r g q c =>
 ⟨F,S,Γ,{E with nx:=u E},r,g,q,fun Γ1 D σ1 H1 j z g1 B=>⟨F,D,Γ1,E,z,g1,B,c.ext j⟩,c.rt,c.bk,c.ct⟩
theorem aQ4(h1:PSD K X st t):PSsD K X [st] t:=⟨eJj h1.o⟩
theorem bX6{tg e:Expr}{te:ED}{g:GD}(he:PD K X e te)(hg:PGD K X tg g)(hs:swapsWithSole [tg] e pos.line X.env=pure false:=by rfl)(hw:swappedStores [tg] e X.env=pure none:=by rfl)
  (h1:(fk [tg] X.env).map (·.2)=[jN tg X.env]:=by rfl):PSD K X (.Assign [tg] e pos) (dAsg te g):=.of (fJe he.o hg.o hs hw h1) λN σ H z=>z.el λF S Γ E r g q c =>
 ⟨F,S,Γ,_,r,g,q,λv d H1 L j D v1 G=>⟨F,L,Γ,d,_,D,g.ext j,v1,G,fun Γ2 J σ2 H2 B=>c.nx Γ2 J σ2 H2 (j.trans B)⟩⟩
theorem gZ7:∀D' σ H,upS K (dAsg te (aZp i)) D' σ H->tAsg (upE K te) (cQq i) D' σ H:=λD' σ H z=>z.el λF S Γ E r g q c =>
 ⟨F,S,Γ,_,r,g,q,λv d H1 G j B v1 D=>c.nx _ G _ H1 j B ((g.ext j).set v1 i) D⟩
theorem aQb(hN:X.N.Nodup)(hi:X.N[i]?=some x)(hx:Loc X.env.scope x)(he:PD K X e te)(hs:iA e (some (.Name x pos')) pos.line X.env=pure false:=by rfl)(hf:X.fn x=true\/X.env.scope.names.lookup x=some .local:=by first|exact .inl rfl|exact .inr rfl|assumption) :
  PSD K X (.Assign [.Name x pos'] e pos) (dAsg te (aZp i)):=.of (fJf hN hi hx he.o hs hf) gZ7
theorem bZ2(he:PD K X e te)(hs:iA e none pos.line X.env=pure false:=by rfl):PSD K X (.Expr e pos) (gJy te):=.of (eJk he.o hs) λJ σ H z=>z.el λF S Γ E r g q c =>
 ⟨F,S,Γ,_,r,g,q,λv d H1 G j B v1 D=>c.nx Γ G σ H1 j B (g.ext j) D⟩
theorem aQ8(he:PD K X e te):PSD K X (.Return (some e) pos) (dRet te):=.of (fJc he.o) λJ σ H j=>j.el λF S Γ E r g q c =>
 ⟨F,S,Γ,_,r,g,q,λv d H1 G z B v1 D=>c.rt v d H1 G z B v1 D⟩
theorem aQz(hc:PTD K X c tc)(ha:PSsD K X sa t)(hb:PSsD K X sb u):PSD K X (.If c sa sb pos) (dIfS tc t u):=.of (gJ6 hc.o ha.o hb.o) λJ σ H G=>G.el λF S Γ E r g q c =>
 ⟨F,S,Γ,_,r,g,q,λz H1 D d j B=>by
  cases z with
  |true=>exact⟨F,D,Γ,E,j,g.ext d,B,c.ext d⟩
  |false=>exact⟨F,D,Γ,E,j,g.ext d,B,c.ext d⟩⟩
def gZ8(c:TD)(tb:SD):SD:=λE Γ S=>∃W:Nat->Gm->Sto->Prop,(∃m,W m Γ S)/\∀m Γ S,W m Γ S ->
 c Γ S λb S1=>if b=true then tb {E with nx:=fun Γ' S'=>∃m',m'<m/\W m' Γ' S',ct:=fun Γ' S'=>∃m',m'<m/\W m' Γ' S',bk:=E.nx} Γ S1 else E.nx Γ S1
theorem eZ2{tb:SD}(hp:PassesOwn (aE X.prog X.w) X.A X.env X.xe)(hc:PTD K X c tc)(hb:PSsD K X body tb):PSD K X (.While c body [] pos) (gZ8 tc tb):=.of (eQ4 hp hc.o hb.o) λD' σ H ⟨F,S,Γ,E,r,g,⟨W,⟨m0,Z⟩,turn⟩,c⟩ =>
 ⟨λm σ' H'=>∃ S' Γ',Ext S H S' H'/\Rp K F S' H'/\RepG K (mt S' F) H' Γ' σ'/\W m Γ' S',⟨m0,S,Γ,Ext.refl _ _,r,g,Z⟩,λm σ1 H1 ⟨U,Γ1,G,r1,g1,Y⟩ =>
  ⟨F,U,Γ1,_,r1,g1,turn m Γ1 U Y,λz H2 O D L N=>by
   cases z with
   |false=>exact c.nx Γ1 O σ1 H2 (G.trans D) L (g1.ext D) N
   |true =>
    refine⟨fun σ' H'=>∃j,j<m/\∃S' Γ',Ext S H S' H'/\Rp K F S' H'/\RepG K (mt S' F) H' Γ' σ'/\W j Γ' S',fun σ' H' ⟨j,h1,h2⟩=>⟨j,h1,h2⟩,F,O,Γ1,_,L,g1.ext D,N,?_,λv d H' S' B=>c.rt v d H' S' (G.trans (D.trans B)),fun Γ' S' σ' H' B=>c.nx Γ' S' σ' H' (G.trans (D.trans B)),?_⟩
    ·exact fun Γ' S' σ' H' B J g3 ⟨j,h1,h2⟩=>⟨j,h1,S',Γ',G.trans (D.trans B),J,g3,h2⟩
    ·exact fun Γ' S' σ' H' B J g3 ⟨j,h1,h2⟩=>⟨j,h1,S',Γ',G.trans (D.trans B),J,g3,h2⟩⟩⟩
end
def FE(F:Am)(H:Hp)(F2:Am):Prop:=∀a,F2 a->F a\/H a=none
theorem FE.refl(F:Am)(H:Hp):FE F H F:=λ_ h=>.inl h
structure ExtW(F:Am)(S:Sto)(H:Hp)(S':Sto)(H':Hp):Prop where
 keep:∀a o,¬ mt S F a->H a=some o->H' a=some o
 new:∀a,S' a≠none->S a≠none\/H a=none
theorem Ext.w(x:Ext S H S' H'):ExtW F S H S' H':=⟨λa o h e=>x.keep a o (aK λn=>h (.inl n)) e,x.new⟩
theorem ExtW.kpF(x:ExtW F S H S' H')(f:FE F H F2):Keep (mt S F) H (mt S' F2) H':=⟨x.keep,λa h e=>λz=>by
 rcases z with z|z
 ·rcases x.new a z with y|y
  ·exact h (.inl y)
  ·exact e y
 ·rcases f a z with y|y
  ·exact h (.inr y)
  ·exact e y⟩
structure ItOk(K:Fg)(F:Am)(S:Sto)(H:Hp)(J:It)(xs:List D)(G:Sto->Prop):Prop where
 go:∀F2,FE F H F2->∀S2 H2,ExtW F S H S2 H2->Rp K F2 S2 H2->G S2->∀i d,xs[i]?=some d->J.go i H2/\∀x H3,J.yld i H2 x H3->Ext S2 H2 S2 H3/\Rp K F2 S2 H3/\RepV K (mt S2 F2) H3 d x
 stop:∀F2,FE F H F2->∀S2 H2,ExtW F S H S2 H2->Rp K F2 S2 H2->G S2->J.stop xs.length H2
abbrev IDk:=List D->(Sto->Prop)->Sto->Prop
abbrev ID:=Gm->Sto->IDk->Prop
def upI(K:Fg)(t:ID):TI:=fun σ H R=>∃F S Γ QD,Rp K F S H/\RepG K (mt S F) H Γ σ/\t Γ S QD/\∀J xs G H' S',Ext S H S' H'->Rp K F S' H'->ItOk K F S' H' J xs G->QD xs G S'->R J H'
theorem upI.el{p:Prop}(h:upI K t σ H R)(k:∀F S Γ QD,Rp K F S H->RepG K (mt S F) H Γ σ->t Γ S QD->(∀J xs G H' S',Ext S H S' H'->Rp K F S' H'->ItOk K F S' H' J xs G->QD xs G S'->R J H')->p):p:=by
 obtain⟨F,S,Γ,QD,h0,h1,h2,d⟩:=h;exact k F S Γ QD h0 h1 h2 d
structure PID(K:Fg)(X:Cx)(tg e:Expr)(t:ID):Prop where
 o:PI X tg e (upI K t)
theorem PID.of(h:PI X tg e te)(i:∀σ H Q,upI K t σ H Q->te σ H Q):PID K X tg e t:=⟨λpins s σ H Q I q=>h pins s σ H Q I (i σ H Q q)⟩
def iSq(K:Fg)(tl:TE):TI:=fun σ H R=>tl σ H λx H1=>(∃a,x=.ref a/\(∃xs,SqL K H1 a xs)/\R (Itl K a) H1)\/∃a,x=.ref a/\(∃xs,SqT K H1 a xs)/\R (Itt K a) H1
theorem gJz(hl:PE X l tl)(hK:X.K=K:=by rfl):PI X tg l (iSq K tl):=by
 subst hK;intro pins s σ H R I h;refine thn (hl pins s σ H _ I h) λv s1 z=>?_;obtain⟨x,H1,d,r1,G⟩:=z;have fp:∀b∈[s1.heap.objs.size],FpOk X pins H1 b:=λb L=>by
  have e:b=s1.heap.objs.size:=by simpa using L
  subst e;exact d.fpOk (am _) (d.hok.fresh (am _))
 rcases G with⟨a,e,⟨xs,B⟩,q⟩|⟨a,e,⟨xs,B⟩,q⟩
 ·subst e;cases r1;obtain⟨j,D,p,J⟩:=d.list B;exact f7 p.isList ⟨s1.heap.objs.size,[s1.heap.objs.size],_,_,H1,rfl,d.kept λb o e=>af _ e,dQh a _,⟨_,au _ rfl,rfl,rfl⟩,fp,q⟩
 ·subst e;cases r1;obtain⟨j,D,p,J⟩:=d.tuple B;exact fN (p) ⟨s1.heap.objs.size,[s1.heap.objs.size],_,_,H1,rfl,d.kept λb o e=>af _ e,cJj a _,⟨_,au _ rfl,rfl,rfl⟩,fp,q⟩
def gZ9(d:D)(xs:List D):Sto->Prop:=match d with
 |.ref a=>λS=>S a=some (.lst xs)
 |_=>λ_=>True
def dSq(te:ED):ID:=fun Γ S Q=>te Γ S λd S1=>∃xs,sqIs S1 d xs/\Q xs (gZ9 d xs) S1
theorem fZ7(t:TupAt K (mt S F) H p us)(l:RepL K (mt S F) H xs us):ItOk K F S H (Itt K p) xs G where
 go:=λU f O H2 x z _ i d hd=>by
  have j:=(t.keep (x.kpF f)).sq;obtain⟨v,B,L⟩:=l.get hd;refine⟨⟨us,v,j,B⟩,λy Y ⟨N,J⟩=>?_⟩;subst N
  have:=J us j
  rw[B] at this;cases this;exact⟨Ext.refl _ _,z,L.keep (x.kpF f)⟩
 stop:=λU f O H2 x z _=>⟨us,(t.keep (x.kpF f)).sq,by rw[l.length];exact am _⟩
theorem fZ8(t:LstAt K (mt S F) H p us)(l:RepL K (mt S F) H xs us):ItOk K F S H (Itl K p) xs G where
 go:=λU f O H2 x z _ i d hd=>by
  obtain⟨v,B,L⟩:=l.get hd;have j:=(t.keep (x.kpF f)).sq;refine⟨⟨us,v,j,B⟩,λy Y ⟨N,J⟩=>?_⟩;subst N
  have:=J us j
  rw[B] at this;cases this;exact⟨Ext.refl _ _,z,L.keep (x.kpF f)⟩
 stop:=λU f O H2 x z _=>⟨us,(t.keep (x.kpF f)).sq,by rw[l.length];exact am _⟩
theorem fZ9:ItOk K F S H (Itl K p) xs (gZ9 (.ref p) xs) where
 go:=λO f N H2 x j z i d hd=>by
  obtain⟨us,hu,l⟩:=j.obj p _ z;obtain⟨v,B,J⟩:=l.get hd;refine⟨⟨us,v,SqL.of hu,B⟩,λy U ⟨L,G⟩=>?_⟩;subst L
  have:=G us (SqL.of hu)
  rw[B] at this;cases this;exact⟨Ext.refl _ _,j,J⟩
 stop:=λO f N H2 x j z=>by
  obtain⟨us,hu,l⟩:=j.obj p _ z;exact⟨us,SqL.of hu,by rw[l.length];exact am _⟩
theorem aQv(hl:PD K X l tl)(hK:X.K=K:=by rfl):PID K X tg l (dSq tl):=.of (gJz hl.o hK) fun σ H Q G=>G.el λF S Γ QD r g q c =>
 ⟨F,S,Γ,_,r,g,q,λv d H1 J z j v1 D=>by
  obtain⟨xs,hs,B⟩:=D;cases d with
  |tup ys =>
   cases hs;obtain⟨p,us,rfl,t,l⟩:=v1;exact .inr ⟨p,rfl,⟨us,t.sq⟩,c _ _ _ _ _ z j (fZ7 t l) B⟩
  |lst ys =>
   cases hs;obtain⟨p,us,rfl,t,l⟩:=v1;exact .inl ⟨p,rfl,⟨us,t.sq⟩,c _ _ _ _ _ z j (fZ8 t l) B⟩
  |ref p =>
   rw[rref v1];obtain⟨us,hu,l⟩:=j.obj p _ hs;exact .inl ⟨p,rfl,⟨us,SqL.of hu⟩,c _ _ _ _ _ z j fZ9 B⟩
  |_=>exact hs.elim⟩
def rngD(lo:Int):Nat->List D
 |0=>[]
 |n+1=>.int lo::rngD (lo+1) n
theorem aZq:∀(n:Nat) (lo:Int),(rngD lo n).length=n
 |0,_=>rfl
 |n+1,lo=>by simp[rngD,aZq n]
theorem bQd:∀(n:Nat) (lo:Int) (i:Nat) (d:D),(rngD lo n)[i]?=some d->i<n/\d=.int (lo+i)
 |0,lo,i,d,h=>by simp[rngD] at h
 |n+1,lo,0,d,h=>by simp[rngD] at h;exact⟨by lia,by rw[<- h];simp⟩
 |n+1,lo,i+1,d,h=>by
  have h':(rngD (lo+1) n)[i]?=some d:=by simpa [rngD] using h
  obtain⟨h1,h2⟩:=bQd n (lo+1) i d h';refine⟨by lia,?_⟩
  rw[h2]
  congr 1
  rw[Int.natCast_add];lia
theorem dX4{lo:Int}:ItOk K F S H (Itr lo n) (rngD lo n) G where
 go:=λJ f D H2 x j _ i d hd=>by
  obtain⟨h1,rfl⟩:=bQd n lo i d hd;exact⟨h1,λy L ⟨B,z⟩=>by subst B;subst z;exact⟨Ext.refl _ _,j,by rfl⟩⟩
 stop:=λJ f D H2 x j _=>by rw[aZq];exact am n
def hQ0(ta:AD):ID:=fun Γ S Q=>ta Γ S λds S1=>match ds with
 |[.int j]=>(-(2^62)<=j/\j<2^62)/\Q (rngD 0 j.toNat) (λ_=>True) S1
 |_=>False
def hQ1(ta:AD):ID:=fun Γ S Q=>ta Γ S λds S1=>match ds with
 |[.int i,.int j]=>(-(2^62)<=i/\i<2^62/\-(2^62)<=j/\j<2^62)/\Q (rngD i (j-i).toNat) (λ_=>True) S1
 |_=>False
theorem aZi{ta:AD}(hg:Gl X "range")(hm:X.mg "range"=none)(ha:PAD K X [a] ta)(hs:az [a] X.env=[(false,eval a X.env)]:=by rfl):PID K X tg (.Call (.Name "range" p) [a] [] pos) (hQ0 ta):=.of (dQi hg hm ha.o hs) fun σ H Q z=>z.el λF S Γ QD r g q c =>
 ⟨F,S,Γ,_,r,g,q,λvs ds H1 J B G v1 d=>by
  match ds,d with
  |[.int j],d =>
   obtain⟨v,rfl,D⟩:=v1.one;rw[rint D];exact⟨j,rfl,d.1.1,d.1.2,c _ _ _ _ _ B G dX4 d.2⟩⟩
theorem dX5{tg:Expr}{p:Pos}{ta:AD}(hg:Gl X "range")(hm:X.mg "range"=none)(ha:PAD K X [a,b] ta)(hs:az [a,b] X.env=[(false,eval a X.env),(false,eval b X.env)]:=by rfl)(hs2:az [b] X.env=[(false,eval b X.env)]:=by rfl):PID K X tg (.Call (.Name "range" p) [a,b] [] pos) (hQ1 ta):=.of (dQj hg hm ha.o hs hs2) fun σ H Q B=>B.el λF S Γ QD r g q c =>
 ⟨F,S,Γ,_,r,g,q,λvs ds H1 L D J v1 d=>by
  match ds,d with
  |[.int i,.int j],d =>
   obtain⟨v,w,rfl,G,z⟩:=v1.two;rw[rint G,rint z];exact⟨i,j,rfl,d.1,c _ _ _ _ _ D J dX4 d.2⟩⟩
def bZs(lo:Int):List D->List D
 |[]=>[]
 |d::ds=>.tup [.int lo,d]::bZs (lo+1) ds
theorem aJ8:∀(ds:List D) (lo:Int),(bZs lo ds).length=ds.length
 |[],_=>rfl
 |d::ds,lo=>by simp[bZs,aJ8 ds]
theorem aJ9:∀(ds:List D) (lo:Int) (i:Nat) (d:D),(bZs lo ds)[i]?=some d->∃e,ds[i]?=some e/\d=.tup [.int (lo+i),e]
 |[],lo,i,d,h=>by simp[bZs] at h
 |e::ds,lo,0,d,h=>by simp[bZs] at h;exact⟨e,rfl,by rw[<- h];simp⟩
 |e::ds,lo,i+1,d,h=>by
  have h':(bZs (lo+1) ds)[i]?=some d:=by simpa [bZs] using h
  obtain⟨f,h1,h2⟩:=aJ9 ds (lo+1) i d h';refine⟨f,by simpa using h1,?_⟩
  rw[h2]
  have:lo+1+i=lo+((i+1:Nat)):=by rw[Int.natCast_add];lia
  rw[this]
theorem fZa{i:Nat}(r:Rp K F S H)(hp:H p=none)(rv:RepV K (mt S F) H d y):Ext S H S (upd H p (.tup [.int i,y]))/\Rp K F S (upd H p (.tup [.int i,y]))/\RepV K (mt S F) (upd H p (.tup [.int i,y])) (.tup [.int (0+i),d]) (.ref p):=by
 have x:Ext S H S (upd H p (.tup [.int i,y])):=Ext.same (aQx hp);refine⟨x,r.same (aQx hp),?_⟩;exact⟨p,_,rfl,.inl ⟨r.nmt hp,.inl aQ9⟩,RepL.cons (by unfold RepV;rw[kA]) (RepL.cons (rv.ext x) RepL.nil)⟩
theorem fZb(t:TupAt K (mt S F) H p us)(l:RepL K (mt S F) H xs us):ItOk K F S H (Ite K p) (bZs 0 xs) G where
 go:=λF2 f Z H2 x B _ i d hd=>by
  obtain⟨e,he,rfl⟩:=aJ9 xs 0 i d hd;obtain⟨v,J,N⟩:=l.get he;have j:=(t.keep (x.kpF f)).sq;refine⟨⟨us,v,j,J⟩,λz H3 ⟨q,y,O,U,Y,L⟩=>?_⟩;subst U;subst Y
  have:=L us j
  rw[J] at this;cases this;exact fZa B O (N.keep (x.kpF f))
 stop:=λF2 f Z H2 x B _=>⟨us,(t.keep (x.kpF f)).sq,by rw[aJ8,l.length];exact am _⟩
def dEnT(ta:AD):ID:=fun Γ S Q=>ta Γ S λds S1=>match ds with
 |[.tup xs]=>Q (bZs 0 xs) (λ_=>True) S1
 |_=>False
theorem eXu{ta:AD}{p:Pos}{elts:List Expr}{x1:Nat}{tpos:Pos}(hg:Gl X "enumerate")(hm:X.mg "enumerate"=none)(ha:PAD K X [e] ta)(hs:az [e] X.env=[(false,eval e X.env)]:=by rfl)(hK:X.K=K:=by rfl) :
  PID K X (.Tuple elts x1 tpos) (.Call (.Name "enumerate" p) [e] [] pos) (dEnT ta):=.of (gQf hg hm ha.o hs hK) fun σ H Q z=>z.el λF S Γ QD r g q c =>
 ⟨F,S,Γ,_,r,g,q,λvs ds H1 D x1 B v1 d=>by
  match ds,d with
  |[.tup xs],d =>
   obtain⟨v,rfl,j⟩:=v1.one;obtain⟨p,us,rfl,t,l⟩:=j;exact⟨p,rfl,⟨us,t.sq⟩,c _ _ _ _ _ x1 B (fZb t l) d⟩⟩
def eZ3(x:Str):List D:=x.cps.toList.map λc=>.str ⟨#[c]⟩
def forD(g:GD)(tb:SD)(G:Sto->Prop)(E:EndsD):List D->Gm->Sto->Prop
 |[],Γ,S=>G S/\E.nx Γ S
 |x::xs,Γ,S=>G S/\g x Γ S fun Γ2 S2=>tb {E with nx:=forD g tb G E xs,ct:=forD g tb G E xs,bk:=E.nx} Γ2 S2
def dFor(wi:ID)(g:GD)(tb:SD):SD:=λE Γ S=>wi Γ S λxs G S1=>forD g tb G E xs Γ S1
theorem aX8{α:Type}{xs:List α}(h:i<xs.length):xs.drop i=xs[i]::xs.drop (i+1):=cu h
theorem aX9{tb:SD}(hp:PassesOwn (aE X.prog X.w) X.A X.env X.xe)(hc:X.calm=true)(hi:PID K X tg iter wi)(hg:PGD K X tg g)(hb:PSsD K X body tb)(hs:∀x,cy iter X.env x=pure x:=by intro _;rfl):PSD K X (.For tg iter body [] pos) (dFor wi g tb):=.of (fJj hp hc hi.o hg.o hb.o hs) λD' σ H z0=>z0.el λF S Γ E r gm q c =>
 ⟨F,S,Γ,_,r,gm,q,λJ xs G H1 S1 Z r1 it q1=>by
  refine⟨λi m σ' H'=>m=xs.length-i/\i<=xs.length/\∃S' Γ',Ext S1 H1 S' H'/\Rp K F S' H'/\RepG K (mt S' F) H' Γ' σ'/\forD g tb G E (xs.drop i) Γ' S',⟨xs.length,by simp,bN _,S1,Γ,Ext.refl _ _,r1,gm.ext Z,by simpa using q1⟩,?_⟩
  rintro i m σ' H' ⟨rfl,hi.o,S',Γ',Y,r2,g2,f2⟩
  by_cases N:i<xs.length
  ·rw[aX8 N] at f2;obtain⟨hG,f2⟩:=f2;obtain⟨hgo,hy⟩:=it.go F (FE.refl F H1) S' H' Y.w r2 hG i xs[i] (ah N);refine .inr ⟨hgo,fun σ'' D=>∃B Γ'',Ext S1 H1 B D/\Rp K F B D/\RepG K (mt B F) D Γ'' σ''/\forD g tb G E (xs.drop (i+1)) Γ'' B,fun σ'' D z=>⟨xs.length-(i+1),by lia,rfl,N,z⟩,λx H3 y3=>?_⟩
   obtain⟨x3,r3,v3⟩:=hy x H3 y3;refine⟨F,S',Γ',xs[i],_,r3,g2.ext x3,v3,f2,fun Γ4 S4 σ4 H4 x4 r4 g4 q4=>⟨F,S4,Γ4,_,r4,g4,q4,?_⟩⟩;have j:=Y.trans (x3.trans x4);exact⟨fun Γ5 O σ5 U L r5 g5 q5=>⟨O,Γ5,j.trans L,r5,g5,q5⟩,λv d U O L=>c.rt v d U O (Z.trans (j.trans L)),fun Γ5 O σ5 U L=>c.nx Γ5 O σ5 U (Z.trans (j.trans L)),fun Γ5 O σ5 U L r5 g5 q5=>⟨O,Γ5,j.trans L,r5,g5,q5⟩⟩
  ·have e:i=xs.length:=by lia
   subst e;rw[fD] at f2;exact .inl ⟨it.stop F (FE.refl F H1) S' H' Y.w r2 f2.1,c.nx Γ' S' σ' H' (Z.trans Y) r2 g2 f2.2⟩⟩
end
end L2
set_option maxHeartbeats 1000000
namespace L2
open PySem PySem.Spec PyProof.Rows
section
variable{X:Cx}{K:Fg}{pos:Pos}{k:Nat}
structure ExtX(D':Addr)(S:Sto)(H:Hp)(S':Sto)(H':Hp):Prop where
 keep:∀a o,a≠D'->S a=none->H a=some o->H' a=some o
 live:∀a,H a≠none->H' a≠none
 new:∀a,S' a≠none->S a≠none\/H a=none
theorem Ext.x(x:Ext S H S' H'):ExtX D' S H S' H':=⟨λa o _=>x.keep a o,x.live,x.new⟩
theorem ExtX.trans(x:ExtX D' S H S1 H1)(y:ExtX D' S1 H1 S2 H2):ExtX D' S H S2 H2 :=
  ⟨λa o n h h' => y.keep a o n (by
      cases e:S1 a with
      |none =>rfl
      | some z => rcases x.new a (by rw [e]; exact λz => by cases z) with z | z
                  · exact absurd h z
                  · rw [h'] at z; cases z) (x.keep a o n h h'),λa h =>y.live a (x.live a h),λa h =>by
    rcases y.new a h with z|z
    · exact x.new a z
    · exact .inr (aK λn =>x.live a n z)⟩
theorem ExtX.kp(x:ExtX D' S H S' H')(hF:F D'):Keep (mt S F) H (mt S' F) H':=⟨λa o h e=>x.keep a o (by rintro rfl;exact h (.inr hF)) (aK λn=>h (.inl n)) e,λa h e=>λz=>by
 rcases z with z|z
 ·rcases x.new a z with y|y
  ·exact h (.inl y)
  ·exact e y
 ·exact h (.inr z)⟩
theorem ExtX.w(x:ExtX D' S H S' H')(hF:F D'):ExtW F S H S' H':=⟨λa o h e=>x.keep a o (by rintro rfl;exact h (.inr hF)) (aK λn=>h (.inl n)) e,x.new⟩
def Free(L:List Nat)(σ:St):Prop:=∀i∈L,σ[i]?=some none
abbrev BD:=Gm->Sto->List D->(List D->Sto->Prop)->Prop
def bZ3(K:Fg)(L:List Nat)(tv:Addr->TB)(td:BD):Prop:=∀D' F S H Γ σ acc zs N QD,Free L σ->F D'->Rp K F S H->RepG K (mt S F) H Γ σ->H D'=some (.lst zs)->RepL K (mt S F) H acc zs->td Γ S acc QD ->
 (∀acc' S' H' zs',ExtX D' S H S' H'->Rp K F S' H'->H' D'=some (.lst zs')->RepL K (mt S' F) H' acc' zs'->QD acc' S'->N H')->tv D' σ H N
def bXw(te:ED):BD:=fun Γ S acc Q=>te Γ S λy S1=>acc.length<sizeLine/\Q (acc++[y]) S1
theorem aQi:bZ3 K L (λD'=>gQ2 D' (upE K te)) (bXw te):=by
 intro D' F S H Γ σ acc zs N QD _ j r g hH l q c;refine⟨F,S,Γ,_,r,g,q,λv d H1 B D G v1 ⟨Y,O⟩=>?_⟩;have Z:=(r.frm D' j).2;have J:=(G.frm D' j).2;have h1:=D.keep _ _ Z hH;have y:ExtX D' B H1 B (upd H1 D' (.lst (zs++[v]))):=⟨λa o n _ e=>by rw[upd_ne n];exact e,λa h=>by
  by_cases e:a=D'
  ·subst e;rw[aQ9];exact λz=>by cases z
  ·rw[upd_ne e];exact h,λa h=>.inl h⟩
 refine⟨zs,h1,by rw[l.length];exact Y,c _ B _ (zs++[v]) (D.x.trans y) ?_ aQ9 ?_ O⟩
 ·exact⟨λa o e=>(G.obj a o e).keep (y.kp j) (upd_ne (by rintro rfl;rw[J] at e;cases e)),λa h=>by
   refine hd λGq U=>?_;obtain⟨⟨ys,e,ct⟩,h2⟩:=G.frm a h;refine U ?_
   by_cases z:a=D'
   ·subst z;exact⟨⟨_,aQ9,trivial⟩,h2⟩
   ·exact⟨⟨ys,by rw[upd_ne z];exact e,ct⟩,h2⟩⟩
 ·exact RepL.app ((l.ext D).keep (y.kp j)) (RepL.cons (v1.keep (y.kp j)) RepL.nil)
def CG(K:Fg)(L L':List Nat)(g:TG)(gd:GD):Prop:=∀F S H Γ σ d v Q QD,Free L σ->Rp K F S H->RepG K (mt S F) H Γ σ->RepV K (mt S F) H d v->gd d Γ S QD->(∀Γ' S' σ' H',Ext S H S' H'->Rp K F S' H'->RepG K (mt S' F) H' Γ' σ'->Wk σ σ'->Free L' σ'->QD Γ' S'->Q σ' H')->g v σ H Q
theorem Free.set(h:Free (i::L) σ)(hi:i∉L):Free L (σ.set i (some v)):=λj d=>by
 rw[gc (by rintro rfl;exact hi d)]
 exact h j (ak _ d)
theorem cg_name(hi:i∉L:=by decide):CG K (i::L) L (cQq i) (aZp i):=λF S H Γ σ d v Q QD f r g j q c=>c _ S _ H (Ext.refl _ _) r (g.set j i) (fQ0 (f i aj)) (f.set hi) q
theorem fZc(hi:i∉j::L:=by decide)(hj:j∉L:=by decide):CG K (i::j::L) L (gTup K 2 (eJl (cQq i) (eJl (cQq j) gNil))) (gZ6 2 (dX2 (aZp i) (dX2 (aZp j) gZ5))):=λF S H Γ σ d v Q QD f r g z q c=>by
 cases d with
 |tup ds =>
  obtain⟨p,us,rfl,sq,l⟩:=tup.st z;refine hd λO G=>?_;obtain⟨hl,q⟩:=q;refine G ?_
  match ds,hl,q with
  |[N,J],_,q =>
   obtain⟨v1,v2,rfl,D,B⟩:=l.two;have f1:Free (j::L) (σ.set i (some v1)):=f.set hi;exact⟨p,_,rfl,sq,rfl,v1,_,rfl,v2,_,rfl,rfl,c _ S _ H (Ext.refl _ _) r ((g.set D i).set B j) ((fQ0 (f i aj)).trans (fQ0 (f1 j aj))) (f1.set hj) q.2⟩
 |_=>exact q.elim
def aZn(g:GD)(tt:TD)(tb:BD)(G:Sto->Prop)(Γ0:Gm):List D->List D->Sto->(List D->Sto->Prop)->Prop
 |[],acc,S,Q=>G S/\Q acc S
 |x::xs,acc,S,Q=>G S/\g x Γ0 S fun Γ2 S2=>tt Γ2 S2 λb S3=>if b=true then tb Γ2 S3 acc λacc' S4=>aZn g tt tb G Γ0 xs acc' S4 Q else aZn g tt tb G Γ0 xs acc S3 Q
theorem dX6(hg:CG K L L' g gd)(hb:bZ3 K L' tv tb){D':Addr}{F:Am}{S:Sto}{H:Hp}{Γ:Gm}{σ:St}{acc:List D}{zs:List V}{N:Hp->Prop}{QD:List D->Sto->Prop}{J:It}{xs:List D}{G:Sto->Prop}
  (f:Free L σ) (hF:F D') (r:Rp K F S H) (gm:RepG K (mt S F) H Γ σ) (hH:H D'=some (.lst zs)) (l:RepL K (mt S F) H acc zs) (it:∀S2 H2,ExtX D' S H S2 H2->Rp K F S2 H2->G S2->(∀i d,xs[i]?=some d->J.go i H2/\∀x H3,J.yld i H2 x H3->Ext S2 H2 S2 H3/\Rp K F S2 H3/\RepV K (mt S2 F) H3 d x)/\J.stop xs.length H2)
  (q:aZn gd tt tb G Γ xs acc S QD) (c:∀acc' S' H' zs',ExtX D' S H S' H'->Rp K F S' H'->H' D'=some (.lst zs')->RepL K (mt S' F) H' acc' zs'->QD acc' S'->N H'):cQt J σ g (upT K tt) (tv D') N H:=by
 refine⟨λi m H'=>m=xs.length-i/\i<=xs.length/\∃S' acc' zs',ExtX D' S H S' H'/\Rp K F S' H'/\H' D'=some (.lst zs')/\RepL K (mt S' F) H' acc' zs'/\aZn gd tt tb G Γ (xs.drop i) acc' S' QD,⟨xs.length,by simp,bN _,S,acc,zs,(Ext.refl _ _).x,r,hH,l,by simpa using q⟩,?_⟩
 intro i m H' zq;refine hd λGq Z=>?_;obtain⟨rfl,hi,S',acc',zs',x2,r2,h2,l2,f2⟩:=zq;refine Z ?_;have g2:=gm.keep (x2.kp hF)
 by_cases hlt:i<xs.length
 ·rw[aX8 hlt] at f2;refine hd λGq Z=>?_;obtain⟨hG,f2⟩:=f2;refine Z ?_;refine hd λGq Z=>?_;obtain⟨hgo,hy⟩:=(it S' H' x2 r2 hG).1 i xs[i] (ah hlt);refine Z ?_;refine .inr ⟨hgo,λB=>∃O j U,ExtX D' S H O B/\Rp K F O B/\B D'=some (.lst U)/\RepL K (mt O F) B j U/\aZn gd tt tb G Γ (xs.drop (i+1)) j O QD,λB z=>⟨xs.length-(i+1),by omega,rfl,hlt,z⟩,λx H3 y3=>?_⟩
  refine hd λGq Z=>?_;obtain⟨x3,r3,v3⟩:=hy x H3 y3;refine Z ?_;refine hg F S' H3 Γ σ xs[i] x _ _ f r3 (g2.ext x3) v3 f2 fun Γ4 S4 σ4 H4 x4 r4 g4 wk fr4 q4=>⟨wk,F,S4,Γ4,_,r4,g4,q4,λz H5 S5 x5 r5 q5=>?_⟩;have Y:=x3.trans (x4.trans x5);have h5:=Y.keep _ _ (r2.frm D' hF).2 h2;have l5:=l2.ext Y;have x05:=x2.trans Y.x;cases z with
  |false=>exact⟨S5,acc',zs',x05,r5,h5,l5,q5⟩
  |true=>exact hb D' F S5 H5 Γ4 σ4 acc' zs' _ _ fr4 hF r5 (g4.ext x5) h5 l5 q5 λacc6 S6 H6 zs6 x6 r6 h6 l6 q6=>⟨S6,acc6,zs6,x05.trans x6,r6,h6,l6,q6⟩
 ·have e:i=xs.length:=by lia
  subst e;rw[fD] at f2;exact .inl ⟨(it S' H' x2 r2 f2.1).2,c acc' S' H' zs' x2 r2 h2 l2 f2.2⟩
def gZa(wi:ID)(g:GD)(tt:TD)(tb:BD):BD:=fun Γ S acc Q=>wi Γ S λxs G S1=>aZn g tt tb G Γ xs acc S1 Q
theorem bXx(hg:CG K L L' g gd)(hb:bZ3 K L' tv tb):bZ3 K L (λD'=>eXf (upI K wi) g (upT K tt) (tv D')) (gZa wi gd tt tb):=by
 intro D' F S H Γ σ acc zs N QD fr B r Y hH l q c;refine⟨F,S,Γ,_,r,Y,q,λJ xs G H1 S1 z r1 it q1=>?_⟩;have h1:=z.keep _ _ (r.frm D' B).2 hH;exact dX6 hg hb fr B r1 (Y.ext z) h1 (l.ext z) (λZ H2 j O U=>⟨it.go F (FE.refl _ _) Z H2 (j.w B) O U,it.stop F (FE.refl _ _) Z H2 (j.w B) O U⟩) q1 λd S' H' D j=>c d S' H' D (z.x.trans j)
def dX7(is:List (Option Nat))(Γ:Gm):Gm:=is.map λo=>o.bind λi=>(Γ[i]?).join
theorem RepG.at:∀{g:Gm}{σ:St}{i:Nat}{d:D},RepG K M H g σ->g[i]?=some (some d)->∃v,σ[i]?=some (some v)/\RepV K M H d v
 |[],_,_,_,_,e=>by simp at e
 |none::g,_,0,_,_,e=>by simp at e
 |some d::g,_,0,e,⟨v,τ,rfl,q,r⟩,h=>by simp at h;subst h;exact⟨v,rfl,q⟩
 |none::g,_,i+1,d,⟨v,τ,rfl,r⟩,h=>by
  refine hd λB j=>?_;obtain⟨u,z,h1⟩:=RepG.at r (by simpa using h);refine j ?_
  exact⟨u,by simpa using z,h1⟩
 |some _::g,_,i+1,d,⟨v,τ,rfl,q,r⟩,h=>by
  refine hd λB j=>?_;obtain⟨u,z,h1⟩:=RepG.at r (by simpa using h);refine j ?_
  exact⟨u,by simpa using z,h1⟩
theorem RepG.capt(h:RepG K M H g σ):∀is:List (Option Nat),RepG K M H (dX7 is g) (capt is σ)
 |[]=>rfl
 |o::is=>by
  have j:=RepG.capt h is;cases o with
  |none=>exact⟨_,_,rfl,j⟩
  |some i =>
   show RepG K M H ((g[i]?).join::dX7 is g) ((σ[i]?).join::L2.capt is σ);cases e:g[i]? with
   |none=>exact⟨_,_,rfl,j⟩
   |some z =>
    cases z with
    |none=>exact⟨_,_,rfl,j⟩
    |some d =>
     refine hd λG B=>?_;obtain⟨v,D,r⟩:=h.at e;refine B ?_;rw[D];exact⟨v,_,rfl,r,j⟩
def fZd(b:Bool)(is:List (Option Nat))(wi:ID)(g:GD)(tt:TD)(tb:BD):ED:=fun Γ S Q=>wi Γ S λxs G S1=>aZn g tt tb G (dX7 is Γ) xs [] S1 λacc S2=>newL b acc S2 Q
theorem dX8(hL:∀σ,Free L (capt is σ))(hg:CG K L L' g gd)(hb:bZ3 K L' tv tb):∀σ H Q,upE K (fZd b is wi gd tt tb) σ H Q->cZx is (upI K wi) g (upT K tt) tv σ H Q:=fun σ H Q z0=>z0.el λF S Γ QD r gm q c =>
 ⟨F,S,Γ,_,r,gm,q,λJ xs G H1 B x1 r1 it q1 D' j=>by
  have O:=r1.sn j;have fe:FE F H1 (λa=>F a\/a=D'):=λa h=>h.elim .inl λe=>.inr (by rw[e];exact j)
  have nF:¬ F D':=λh=>by
   refine hd λGq kq=>?_;obtain⟨⟨ys,e,_⟩,_⟩:=r1.frm D' h;refine kq ?_;rw[j] at e;cases e
  have xe:Ext B H1 B (upd H1 D' (.lst [])):=Ext.same (aQx j);have kp:=xe.w.kpF fe;have r2:Rp K (λa=>F a\/a=D') B (upd H1 D' (.lst [])):=⟨λa o e=>(r1.obj a o e).keep kp (upd_ne (by rintro rfl;rw[O] at e;cases e)),λa h=>by
   rcases h with h|h
   ·refine hd λGq kq=>?_;obtain⟨⟨ys,e,ct⟩,h2⟩:=r1.frm a h;refine kq ?_;exact⟨⟨ys,by rw[upd_ne (by rintro rfl;rw[j] at e;cases e)];exact e,ct⟩,h2⟩
   ·subst h;exact⟨⟨_,aQ9,trivial⟩,O⟩⟩
  have old:∀ {D H2},ExtX D' B (upd H1 D' (.lst [])) D H2->Ext B H1 D H2:=λ{D H2} y=>⟨λa o h e=>y.keep a o (by rintro rfl;rw[j] at e;cases e) h (by rw[upd_ne (by rintro rfl;rw[j] at e;cases e)];exact e),λa h=>y.live a (xe.live a h),λa h=>by
   rcases y.new a h with z|z
   ·exact .inl z
   ·by_cases e:a=D'
    ·subst e;exact .inr j
    ·rw[upd_ne e] at z;exact .inr z⟩
  refine dX6 hg hb (hL σ) (.inr rfl) r2 ((gm.ext x1).keep kp |>.capt is) aQ9 RepL.nil (λD H2 y r2 hG=>⟨it.go _ fe D H2 (old y).w r2 hG,it.stop _ fe D H2 (old y).w r2 hG⟩) q1 λd S' H' N y Z h3 l3 q3=>?_
  have less:Keep (mt S' λa=>F a\/a=D') H' (mt S' F) H':=⟨λ_ _ _ e=>e,λa h _=>λz=>h (z.elim .inl λw=>.inr (.inl w))⟩;have Y:=old y;have U:=(Z.frm D' (.inr rfl)).2;have r4:Rp K F S' H':=⟨λa o e=>(Z.obj a o e).keep less rfl,λa h=>Z.frm a (.inl h)⟩;have nm:¬ mt S' F D':=λz=>z.elim (λw=>w U) nF;cases b with
  |false =>
   refine c (.ref D') (.lst d) H' S' (x1.trans Y) r4 ?_ q3;exact⟨D',N,rfl,.inl ⟨nm,.inl h3⟩,l3.keep less⟩
  |true =>
   have x5:Ext B H1 (supd S' D' (.lst d)) H':=⟨Y.keep,Y.live,λa h=>by
    by_cases e:a=D'
    ·subst e;exact .inr j
    ·rw[supd_ne e] at h;exact Y.new a h⟩
   have k6:Keep (mt S' λa=>F a\/a=D') H' (mt (supd S' D' (.lst d)) F) H':=⟨λ_ _ _ e=>e,λa h _=>λz=>by
    rcases z with z|z
    ·by_cases e:a=D'
     ·exact h (.inr (.inr e))
     ·rw[supd_ne e] at z;exact h (.inl z)
    ·exact h (.inr (.inl z))⟩
   refine c (.ref D') (.ref D') H' (supd S' D' (.lst d)) (x1.trans x5) ⟨λa o e=>?_,λa h=>⟨(r4.frm a h).1,?_⟩⟩ (by rfl) (q3 D' U)
   ·by_cases e1:a=D'
    ·subst e1;rw[supd_same] at e;cases e;exact⟨N,h3,l3.keep k6⟩
    ·rw[supd_ne e1] at e;exact(Z.obj a o e).keep k6 rfl
   ·rw[supd_ne (by rintro rfl;exact nF h)];exact(r4.frm a h).2⟩
def dYes:TD:=λ_ S Q=>Q true S
theorem aQk:PTs X [] (upT K dYes):=λpins s σ H Q I d=>d.el λF S Γ QD r g q c=>eJy pins s σ H Q I (c true H S (Ext.refl _ _) r q)
theorem aQf(h:(L.all λi=>decide (is[i]?=some none))=true):∀σ,Free L (capt is σ):=fun σ i hi=>by
 have:=of_decide_eq_true (ba.mp h i hi)
 unfold capt;rw[aY,this]
 rfl
theorem aZj(h:PTD K X c t):PTs X [c] (upT K t):=eJz h.o
end
end L2
set_option maxHeartbeats 4000000
namespace L2
open PySem PySem.Spec PyProof.Rows
section
variable{prog:aA}{w:aO}{s:ai}
def Col(prog:aA)(w:aO)(s:ai)(v:ad)(Pv:List ad->Prop):Prop:=∀(A:aW) (E:ad->ai->Prop) (R:List ad->ai->Prop),A.handled=none ->
 (∀vals h' d tk,Pv vals->(∀b o,s.heap.get? b=some o->h'.get? b=some o)->R vals {s with heap:=h',drawn:=d,toks:=tk})->aD (aE prog w) A (collect v) R E s
theorem dX9{a:Addr}{T:String}{o:Obj}{its:List ad}{n:Nat}(hT:T="list"\/T="tuple")(ho:s.heap.get? a=some o)(hc:o.cls=.type T)(hd:o.data=.seq its.toArray n)(hz:its.length<=sizeLine):Col prog w s (.ref a) (·=its):=λA E R _ h =>
 wpAny_collect_seq a hT ho hc hd (λh' k=>by
  have:=h its h' s.drawn s.toks rfl k
  simpa using this) (by simpa using hz)
theorem eZ4(lo:(a==fj)=false)(hd:s.heap.DictOf (aQw prog w) a vs)(hz:vs.length<=sizeLine):Col prog w s (.ref a) (λvals=>vals.length=vs.length/\∀(j:Nat) (v:ad),vals[j]?=some v->∃(k:Key) (x:ad),vs[j]?=some (k,x)/\bJm k v=true):=λA E R G h=>by
 obtain⟨ep,z⟩:=hd.dictAt;refine PySem.W.kdu_collect (PySem.W.kdl_dict lo) G z hz λh' B acc D d=>?_;exact h acc.toList h' s.drawn B ⟨by rw[aT];exact d.1,λj v e=>d.2 j v (by rw[<- br];exact e)⟩ D
theorem aXo(hh:A.handled=none)(col:Col prog w s v Pv)(hz:∀vals,Pv vals->vals.length<=sizeLine)
  (srt:∀(vals:List ad) (h1:bd) (d:Drawn) (tk:Nat),Pv vals->(∀b o,s.heap.get? b=some o->h1.get? b=some o)->aD (aE prog w) A.in1.in1 (cX.«list.sort» ⟨[.ref h1.objs.size],[]⟩) (λfin s'=>fin=.done (.ret .none)/\Q (.ref h1.objs.size) s') E {s with heap:=h1.push (bK "list" vals.toArray 0),drawn:=d,toks:=tk}) :
  aD (aE prog w) A (call (.builtin "sorted") [v]) Q E s:=by
 refine gw kind_sorted plain_sorted entry_sorted (args_sorted1 _) ?_;refine aa (ag ?_);refine aa (col A.in1 _ _ (by simp[hh]) λvals h1 d tk pv kp=>?_)
 refine aa (iO ?_ (hz vals pv));have j:(h1.push (bK "list" vals.toArray 0)).get? h1.objs.size=some (bK "list" vals.toArray 0):=au _ rfl;refine aa (bF (cU slot_list_sort ⟨_,j,rfl⟩ entry_list_sort ?body (args_list_sort _)))
 case body =>
  refine cO (srt vals h1 d tk pv kp) (λfin s' ⟨e,q⟩=>?_) λ_ _ e=>e;subst e;exact⟨_,rfl,ag ⟨_,rfl,q⟩⟩
theorem bZ4(ho:h.get? a=some (bK "list" vs.toArray n)):(∃c,(jz h a vs out).get? a=some (bK "list" out c))/\∀b o,b≠a->h.get? b=some o->(jz h a vs out).get? b=some o:=by
 obtain⟨B,d⟩:∃B,(h.update a (bw λ_=>(#[]))).get? a=some (bK "list" #[] B):=⟨_,eU ho λ_=>#[]⟩;have D:=bV h a (bw λ_=>(#[]));have j:∀b o,(h.update a (bw λ_=>(#[]))).get? b=some o->(((h.update a (bw λ_=>(#[]))).push (bK "tuple" vs.toArray 0)).push (bK "list" #[] 0)).get? b=some o:=λb o e=>af _ (af _ e);refine⟨⟨_,eU (j _ _ d) λ_=>out⟩,λb o z e=>?_⟩;have s2:=bV (((h.update a (bw λ_=>(#[]))).push (bK "tuple" vs.toArray 0)).push (bK "list" #[] 0)) a (bw λ_=>out);exact(s2.2 b z).trans (j b o ((D.2 b z).trans e))
theorem dXa(ho:s.heap.get? a=some (bK "list" vs.toArray n))(hS:ku vs ss)(h64:vs.length<64)
  (h:∀(out:List ad) (ss':List Str) (h':bd) (c:Nat),ku out ss'->ss'.Perm ss->sortedS ss'=true->h'.get? a=some (bK "list" out.toArray c)->(∀b o,b≠a->s.heap.get? b=some o->h'.get? b=some o)->P (.done (.ret .none)) {s with heap:=h'}) :
  aD (aE prog w) A (cX.«list.sort» ⟨[.ref a],[]⟩) P E s:=by
 refine list_sort_treeK strKind_oneLt ho hS.keysOf (λz j rest e=>keyKind_strs (by rw[<- e];exact hS)) h64 λd B hs=>?_
 obtain⟨ss',h1,h2,J⟩:=sorted_out_str hS B hs;obtain⟨⟨c,G⟩,D⟩:=bZ4 ho;exact h _ ss' _ c h1 h2 J (by rw[G]) D
theorem dXb{A:aW}{E:ad->ai->Prop}{a:Addr}{vs:List ad}{ns:List Int}{n:Nat}{P:PySem.Fin->ai->Prop}(ho:s.heap.get? a=some (bK "list" vs.toArray n))(hI:kh vs ns)(h64:vs.length<64)
  (h:∀(out:List ad) (ns':List Int) (h':bd) (c:Nat),kh out ns'->ns'.Perm ns->ns'.Pairwise (·<=·)->h'.get? a=some (bK "list" out.toArray c)->(∀b o,b≠a->s.heap.get? b=some o->h'.get? b=some o)->P (.done (.ret .none)) {s with heap:=h'}) :
  aD (aE prog w) A (cX.«list.sort» ⟨[.ref a],[]⟩) P E s:=by
 refine list_sort_tree ho hI h64 λout ns' h1 h2 z=>?_;obtain⟨⟨c,j⟩,d⟩:=bZ4 ho;exact h _ ns' _ c h1 h2 z (by rw[j]) d
end
section
variable{X:Cx}{K:Fg}
def Src(K:Fg)(H:Hp)(x:V)(us:List V):Prop:=∃a,x=.ref a/\(SqL K H a us\/SqT K H a us\/∃kvs:List (Key×V),H a=some (.dK kvs)/\us=kvs.map λp=>kV p.1)
theorem cQa:∀{kvs:List (Key×V)}{vs:List (Key×ad)}{vals:List ad},KV kvs vs->vals.length=vs.length->(∀(j:Nat) (v:ad),vals[j]?=some v->∃(k:Key) (x:ad),vs[j]?=some (k,x)/\bJm k v=true)->Vals (kvs.map λp=>kV p.1) vals
 |[],_,vals,.nil,hl,_=>by cases vals with
  |nil=>exact .nil
  |cons _ _=>simp at hl
 |p::kvs,_,vals,.cons (b:=q) B z,hl,h=>by
  cases vals with
  |nil=>simp at hl
  |cons v vals =>
   refine .cons ?_ (cQa z (by simpa using hl) λj v e=>by simpa using h (j+1) v (by simpa using e))
   obtain⟨k,x,e,D⟩:=h 0 v rfl;have G:q=(k,x):=by simpa using e
   have d:p.1=k:=by rw[B.1,G]
   show RelV (kV p.1) v;rw[d];rcases aQo D with⟨i,t,rfl,rfl⟩|⟨y,t,rfl,rfl⟩
   ·exact⟨t,rfl⟩
   ·exact⟨t,rfl⟩
theorem Inv.toks{σ:St}(I:Inv X pins σ H s){h':bd}(k:∀b o,s.heap.get? b=some o->h'.get? b=some o)(d:Drawn)(tk:Nat):Inv X pins σ H {s with heap:=h',drawn:=d,toks:=tk}:=(I.kept k).drawn d
theorem Inv.src{σ:St}(I:Inv X pins σ H s)(hK:X.K=K){x:V}{u:ad}{us:List V}(h:Src K H x us)(r:RelV x u):Col X.prog X.w s u (λvals=>Vals us vals)/\us.length<=sizeLine:=by
 subst hK;obtain⟨a,rfl,h⟩:=h;cases r;rcases h with h|h|⟨G,h,rfl⟩
 ·obtain⟨J,z,⟨o,n,L,N,_,hd⟩,B⟩:=I.list h;have hl:=z.length;exact⟨λA E R D q=>dX9 (.inl rfl) L N hd (by lia) A E R D λvals h' d j e k=>q vals h' d j (by rw[e];exact z) k,B⟩
 ·obtain⟨J,z,⟨o,L,N,n,hd⟩,B⟩:=I.tuple h;have hl:=z.length;exact⟨λA E R D q=>dX9 (.inr rfl) L N hd (by lia) A E R D λvals h' d j e k=>q vals h' d j (by rw[e];exact z) k,B⟩
 ·obtain⟨B,lo,vs,O,hd⟩:=I.hok a _ h;have hl:=bW O;exact⟨λA E R D q=>eZ4 lo hd (by lia) A E R D λvals h' d j e k=>q vals h' d j (cQa O e.1 e.2) k,by rw[ae];exact B⟩
def gZb(K:Fg):List V->Hp->VK->Prop:=λxs H Q=>∃(x:V) (ss:List Str),xs=[x]/\Src K H x (ss.map V.str)/\ss.length<64/\∀(p:Addr) (out:List Str),H p=none->out.Perm ss->out.Pairwise (λa b=>HT.ltS b a=false)->Q (.ref p) (upd H p (.lst (out.map V.str)))
theorem bX7:∀{l:List Str},sortedS l=true->l.Pairwise λa b=>HT.ltS b a=false
 |[],_=>.nil
 |[x],_=>bI _ _
 |x::y::l,h=>by
  have h':(!ltCps y.cps.toList x.cps.toList&&risingS y l)=true:=h;rw[aV] at h';have G:=bX7 (l:=y::l) h'.2;have B:HT.ltS y x=false:=by
   have:=h'.1
   rw[cY,ltCps_eq] at this;exact this
  refine aM.mpr ⟨λz D=>?_,G⟩;rcases aw.mp D with rfl|D
  ·exact B
  ·have d:=(aM.mp G).1 z D;cases e:HT.ltS z x with
   |false=>rfl
   |true =>
    by_cases j:y=x
    ·subst j;rw[d] at e;cases e
    ·have:=HT.ltS_tot B j
     have:=HT.ltS_tr e this
     rw[d] at this;cases this
theorem dXc(hK:X.K=K:=by rfl)(hc:X.calm=true:=by rfl):CallR X (.builtin "sorted") (gZb K):=by
 intro pins s σ H xs us Q I r h;obtain⟨x,ss,rfl,hs,j,q⟩:=h;obtain⟨u,rfl,J⟩:=aX4 r;obtain⟨col,D⟩:=I.src hK hs J;have len:∀{vals:List ad},Vals (ss.map V.str) vals->vals.length=ss.length:=λv=>by have:=v.length;simpa using this.symm
 refine aXo (I.ok.hd hc) col (λvals v=>by rw[len v];simpa using D) λvals h1 d z pv kp=>?_
 have G:=(I.toks kp d z).hok.fresh (am _);refine dXa (au _ rfl) (dZp (H:=H) (ds:=ss) (by
  clear D j q hs col J pv len
  induction ss with
  |nil=>exact .nil
  |cons a ss L=>exact .cons rfl L) pv) (by rw[len pv];exact j) λout B h' c a1 a2 U O N=>⟨rfl,?_⟩
 have Y:=I.toks kp d z;obtain⟨v1,v2⟩:=bXu (H:=H) a1;refine⟨.ref h1.objs.size,_,Y.laid (o:=.lst (B.map V.str)) (λb o e=>N b o (aN (aC e)) (af _ e)) (am _) ⟨?_,out,c,v1,O⟩,rfl,q _ _ G a2 (bX7 U)⟩
 have:=a2.length_eq
 rw[ae,this];simpa using D
def gZc(K:Fg):List V->Hp->VK->Prop:=λxs H Q=>∃(x:V) (ns:List Int),xs=[x]/\Src K H x (ns.map V.int)/\ns.length<64/\∀(p:Addr) (out:List Int),H p=none->out.Perm ns->out.Pairwise (·<=·)->Q (.ref p) (upd H p (.lst (out.map V.int)))
theorem dXd(hK:X.K=K:=by rfl)(hc:X.calm=true:=by rfl):CallR X (.builtin "sorted") (gZc K):=by
 intro pins s σ H xs us Q I r h;obtain⟨x,ss,rfl,hs,D,q⟩:=h;obtain⟨u,rfl,J⟩:=aX4 r;obtain⟨col,G⟩:=I.src hK hs J;have len:∀{vals:List ad},Vals (ss.map V.int) vals->vals.length=ss.length:=λv=>by have:=v.length;simpa using this.symm
 refine aXo (I.ok.hd hc) col (λvals v=>by rw[len v];simpa using G) λvals h1 d j pv kp=>?_
 have B:=(I.toks kp d j).hok.fresh (am _);refine dXb (au _ rfl) (cJo pv) (by rw[len pv];exact D) λout z h' c a1 a2 O N L=>⟨rfl,?_⟩
 have U:=I.toks kp d j;refine⟨.ref h1.objs.size,_,U.laid (o:=.lst (z.map V.int)) (λb o e=>L b o (aN (aC e)) (af _ e)) (am _) ⟨?_,out,c,bQk a1,N⟩,rfl,q _ _ B a2 O⟩
 have:=a2.length_eq
 rw[ae,this];simpa using G
def gZd(K:Fg):List V->Hp->VK->Prop:=λxs H Q=>∃(x:V) (us:List V) (ds:List (List Str)),xs=[x]/\Src K H x us/\bc (dT K dS H) us ds/\ds.Nodup/\ds.length<64/\∀(p:Addr) (idx:List Nat),H p=none->idx.Perm (aI us.length)->(idx.map λi=>ds.getD i []).Pairwise (λa b=>HT.lexS a b=true)->(idx.map λi=>ds.getD i []).Perm ds->Q (.ref p) (upd H p (.lst (idx.map λi=>us.getD i V.non)))
theorem tsOf{σ:St}(I:Inv X pins σ H s)(hK:X.K=K){h':bd}(k:∀b o,s.heap.get? b=some o->h'.get? b=some o):∀{us:List V}{vs:List ad}{ds:List (List Str)},Vals us vs->bc (dT K dS H) us ds->bc (KS.TS h') vs ds
 |_,_,_,.nil,.nil=>.nil
 |_,_,_,.cons r q,.cons d p=>by
  refine .cons ?_ (tsOf I hK k q p);obtain⟨b,xs,e,B,pp⟩:=d;rw[e] at r;cases r;rw[<- hK] at B;obtain⟨j,D,⟨o,G,z⟩,_⟩:=I.tuple B;exact⟨b,j.toArray,rfl,⟨o,k b o G,z⟩,bQu pp D⟩
theorem bXy(p:Vals us vs):∀(idx:List Nat),(∀i∈idx,i<us.length)->Vals (idx.map λi=>us.getD i V.non) (idx.map λi=>vs.getD i bJ)
 |[],_=>.nil
 |i::idx,h=>by
  refine .cons ?_ (bXy p idx λj d=>h j (ak _ d));have hi:=h i aj;obtain⟨u,e,r⟩:=p.get (ah hi);show RelV (us.getD i V.non) (vs.getD i bJ);rw[ay,ay,e,ah hi];exact r
theorem dXe(hu:X.A.units+8<bR)(hK:X.K=K:=by rfl)(hc:X.calm=true:=by rfl):CallR X (.builtin "sorted") (gZd K):=by
 intro pins s σ H xs us Q I r h;obtain⟨x,ys,ds,rfl,hs,L,nd,h64,q⟩:=h;obtain⟨u,rfl,N⟩:=aX4 r;obtain⟨col,Z⟩:=I.src hK hs N;have hl:=bW L;refine aXo (I.ok.hd hc) col (λvals v=>by rw[<- v.length];exact Z) λvals h1 d j pv kp=>?_
 have B:=pv.length;have J:=I.toks kp d j;have G:=J.hok.fresh (am _);refine KS.sort_tups (by lia) (au _ rfl) (tsOf J hK (λb o e=>af _ e) pv L) nd (by lia) λidx h' c z Y U g O=>⟨rfl,?_⟩
 have D:∀i∈idx,i<ys.length:=λi hi=>by have:=aU.mp (z.mem_iff.mp hi);lia
 have il:idx.length=vals.length:=by have:=z.length_eq;simpa using this
 refine⟨.ref h1.objs.size,_,J.laid (o:=.lst (idx.map λi=>ys.getD i V.non)) (λb o e=>O b o (aN (aC e)) (af _ e)) (am _) ⟨?_,_,c,bXy pv idx D,g⟩,rfl,q _ idx G (by rw[B];exact z) Y U⟩
 rw[ae];lia
end
section
variable{κ:Type}[DecidableEq κ]
def valV(kvs:List (κ×V))(k:κ):Option V:=(kvs.find? λkv=>decide (kv.1=k)).map (·.2)
def putK(kvs:List (κ×V))(k:κ)(v:V):List (κ×V) :=
 if (kvs.any λkv=>decide (kv.1=k))=true then kvs.map (λkv=>if kv.1=k then (kv.1,v) else kv) else kvs++[(k,v)]
theorem bQe{r:List (κ×V)}{k:κ}(e:p.1=k):valV (p::r) k=some p.2:=by simp[valV,du,e]
theorem bXz{r:List (κ×V)}{k:κ}(e:¬ p.1=k):valV (p::r) k=valV r k:=by simp[valV,du,e]
theorem cXi(k:κ):∀kvs:List (κ×V),(kvs.any λkv=>decide (kv.1=k))=(valV kvs k).isSome
 |[]=>rfl
 |p::r=>by
  rw[gJ]
  by_cases e:p.1=k
  ·simp only[bQe e,decide_eq_true e,Bool.true_or,jt]
  ·rw[bXz e,decide_eq_false e,Bool.false_or];exact cXi k r
theorem bZ5(kvs:List (κ×V))(k:κ)(v:V):(putK kvs k v).length<=kvs.length+1:=by
 unfold putK
 split
 ·rw[ae];lia
 ·rw[ax,aG,dq];lia
theorem RelO.isSome_eq(r:RelO o u):o.isSome=u.isSome:=by
 cases o with
 |none=>cases u with
  |none=>rfl
  |some _=>exact(r).elim
 |some _=>cases u with
  |none=>exact(r).elim
  |some _=>rfl
theorem KV.val{vs:List (κ×ad)}(r:KV kvs vs)(k:κ):RelO (valV kvs k) (valueAt vs k):=by
 induction r with
 |nil=>exact lq
 |@cons p q ps d h t B =>
  obtain⟨h1,h2⟩:=h
  by_cases e:p.1=k
  ·have j:=h1.symm.trans e;have b:valueAt (q::d) k=some q.2:=by simp[valueAt,du,j]
   rw[bQe e,b];exact h2
  ·have j:¬ q.1=k:=λz=>e (h1.trans z);have b:valueAt (q::d) k=valueAt d k:=by simp[valueAt,du,j]
   rw[bXz e,b];exact B
theorem KV.any{vs:List (κ×ad)}(r:KV kvs vs)(k:κ):(kvs.any λkv=>decide (kv.1=k))=vs.any λkv=>decide (kv.1=k):=by
 induction r with
 |nil=>rfl
 |cons h t d=>rw[gJ,gJ,d,h.1]
theorem KV.repl{vs:List (κ×ad)}(r:KV kvs vs)(k:κ){y:V}{u:ad}(ry:RelV y u) :
  KV (kvs.map λkv=>if kv.1=k then (kv.1,y) else kv) (vs.map λkv=>if kv.1=k then (kv.1,u) else kv):=by
 induction r with
 |nil=>exact .nil
 |@cons p q ps j h t d =>
  rw[a8,a8];refine .cons ?_ d;obtain⟨h1,h2⟩:=h
  by_cases e:p.1=k
  ·rw[if_pos e,if_pos (h1.symm.trans e)];exact⟨h1,ry⟩
  ·rw[if_neg e,if_neg (λz=>e (h1.trans z))];exact⟨h1,h2⟩
theorem KV.put{vs:List (κ×ad)}(r:KV kvs vs)(k:κ){y:V}{u:ad}(ry:RelV y u):KV (putK kvs k y) (stored vs k u):=by
 unfold putK stored;rw[r.any k]
 by_cases e:(vs.any λd=>decide (d.1=k))=true
 ·rw[if_pos e,if_pos e];exact r.repl k ry
 ·rw[if_neg e,if_neg e];exact bc.snoc r ⟨rfl,ry⟩
theorem KV.length{vs:List (κ×ad)}(r:KV kvs vs):kvs.length=vs.length:=bW r
end
theorem fZe(r:RelV (kV k) u):(aQw P w).is k u=true:=by
 cases k with
 |inl i=>obtain⟨t,e⟩:=(r);subst e;exact cQo P w i t
 |inr x=>obtain⟨t,e⟩:=(r);subst e;exact cQp P w x t
theorem cQb:∀{ks:List Key}{us:List ad},Vals (ks.map kV) us->ItemsAre (aQw P w) ks us
 |[],_,r=>by rw[e5] at r;cases r;exact .nil
 |k::ks,_,r=>by
  rw[a8] at r;cases r with
  |cons h t=>exact .cons (fZe h) (cQb t)
abbrev KT(H:Hp):List (List Key×V)->List (List Key×Addr×ad)->Prop:=bc λp q=>p.1=q.1/\H q.2.1=some (.tup (p.1.map kV))/\RelV p.2 q.2.2
theorem KT.val{H:Hp}{kvs:List (List Key×V)}{xs:List (List Key×Addr×ad)}(r:KT H kvs xs)(k:List Key):RelO (valV kvs k) ((atKey xs k).map (·.2)):=by
 induction r with
 |nil=>exact lq
 |@cons p q ps d h t B =>
  obtain⟨h1,_,h2⟩:=h
  by_cases e:p.1=k
  ·have j:=h1.symm.trans e;have b:atKey (q::d) k=some q.2:=by simp[atKey,du,j]
   rw[bQe e,b];exact h2
  ·have j:¬ q.1=k:=λz=>e (h1.trans z);have b:atKey (q::d) k=atKey d k:=by simp[atKey,du,j]
   rw[bXz e,b];exact B
theorem KT.repl(r:KT H kvs xs)(k:List Key){y:V}{u:ad}(ry:RelV y u) :
  KT H (kvs.map λkv=>if kv.1=k then (kv.1,y) else kv) (xs.map (putAt k u)):=by
 induction r with
 |nil=>exact .nil
 |@cons p q ps B h t d =>
  rw[a8,a8];refine .cons ?_ d;obtain⟨h1,h2,j⟩:=h;unfold putAt
  by_cases e:p.1=k
  ·rw[if_pos e,if_pos (h1.symm.trans e)];exact⟨h1,h2,ry⟩
  ·rw[if_neg e,if_neg (λz=>e (h1.trans z))];exact⟨h1,h2,j⟩
theorem KT.put(r:KT H kvs xs)(k:List Key){b:Addr}{y:V}{u:ad}(hb:H b=some (.tup (k.map kV)))(ry:RelV y u) :
  KT H (putK kvs k y) (storedH xs k b u):=by
 have e:(kvs.any λd=>decide (d.1=k))=(atKey xs k).isSome:=by
  rw[cXi,(r.val k).isSome_eq,Option.isSome_map]
 unfold putK storedH;rw[e]
 by_cases q:(atKey xs k).isSome=true
 ·rw[if_pos q,if_pos q];exact r.repl k ry
 ·rw[if_neg q,if_neg q];exact bc.snoc r ⟨rfl,hb,ry⟩
theorem KT.keeps(r:KT H kvs xs)(ht:∀b ys,H b=some (.tup ys)->H' b=some (.tup ys)):KT H' kvs xs :=
 Paired.mapP r λ_ _ z=>⟨z.1,ht _ _ z.2.1,z.2.2⟩
section
variable{P:aA}{w:aO}{H:Hp}{h:bd}{a:Addr}
theorem gZe(ok:HOk P w H h)(e:Rd H a u):ObjOk P w H h a u:=e.ok ok
theorem fZf(ok:HOk P w H h)(e:Rd H a (.dK kvs)):kvs.length<=sizeLine/\(a==fj)=false/\∃vs,KV kvs vs/\h.DictOf (aQw P w) a vs :=
 gZe ok e
theorem hQ2(ok:HOk P w H h)(e:H a=some (.dK kvs)):kvs.length<=sizeLine/\(a==fj)=false/\∃vs,KV kvs vs/\h.DictOf (aQw P w) a vs:=fZf ok (.inl e)
theorem key_of(ok:HOk P w H h)(e:H a=some (.tup (ks.map kV))):(tupleKind (aQw P w)).is h ks a:=by
 obtain⟨_,d,r,⟨o,h1,h2,n,j⟩,_⟩:=(ok a _ e)
 exact⟨o,d.toArray,n,h1,h2,j,by simpa using cQb r⟩
theorem fZg(ok:HOk P w H h)(e:Rd H a (.dT kvs)):kvs.length<=sizeLine/\(a==fj)=false /\
  ∃xs,KT H kvs xs/\h.DictOfH (tupleKind (aQw P w)) a xs:=by
 obtain⟨z,y,xs,r,o,es,L,h1,h2,J,G,D⟩:=(gZe ok e)
 refine⟨z,y,xs,r,o,es,L,h1,h2,J,G,λx d=>?_,D⟩;have all:∀{l:List (List Key×V)}{m:List (List Key×Addr×ad)},KT H l m->∀x∈m,(tupleKind (aQw P w)).is h x.1 x.2.1:=by
  intro l m q
  induction q with
  |nil=>intro x d;exact nomatch d
  |@cons p q ps N j t B =>
   intro x d;rcases aw.mp d with e|d
   ·subst e;exact key_of ok (by rw[<- j.1];exact j.2.1)
   ·exact B x d
 exact all r x d
theorem dt_of(ok:HOk P w H h)(e:H a=some (.dT kvs)):kvs.length<=sizeLine/\(a==fj)=false /\
  ∃xs,KT H kvs xs/\h.DictOfH (tupleKind (aQw P w)) a xs:=fZg ok (.inl e)
end
def DGet(H:Hp)(a:Addr)(y:V)(r:Option V):Prop :=
 (∃kvs k,Rd H a (.dK kvs)/\y=kV k/\r=valV kvs k)\/∃kvs k b,Rd H a (.dT kvs)/\y=.ref b/\H b=some (.tup (k.map kV))/\r=valV kvs k
def DPut(H:Hp)(a:Addr)(y v:V)(H':Hp):Prop :=
 (∃kvs k,H a=some (.dK kvs)/\y=kV k/\kvs.length<sizeLine/\H'=upd H a (.dK (putK kvs k v))) \/
 ∃kvs k b,H a=some (.dT kvs)/\y=.ref b/\H b=some (.tup (k.map kV))/\kvs.length<sizeLine/\H'=upd H a (.dT (putK kvs k v))
section
variable{X:Cx}{pins:List (Addr×Obj)}{σ:St}{H:Hp}{s:ai}{a:Addr}{y v:V}{u r:ad}{o:Option V}{A:aW}{E:ad->ai->Prop}
theorem Inv.big(I:Inv X pins σ H s):fj<s.heap.objs.size:=by
 have h:=(I.mod.glob.keeps I.bk).lt;exact eA (by decide) h
theorem dXf(hu:A.units+1<bR)(I:Inv X pins σ H s)(g:DGet H a y (some v))(ry:RelV y u)(h:∀w' s',Inv X pins σ H s'->RelV v w'->Q w' s') :
  aD (aE X.prog X.w) A (hU (.ref a) u) Q E s:=by
 rcases g with⟨j,k,e,D,l⟩|⟨j,k,b,e,D,J,l⟩
 ·subst D;obtain⟨z,hd,vs,rel,dd⟩:=fZf I.hok e;obtain⟨w',hw,d⟩:=RelO.some_of (by rw[l];exact rel.val k)
  exact wpAny_getItem_of (fZe ry) dd.mapOf hw (h w' _ (I.tok _) d)
 ·subst D;cases (ry)
  obtain⟨z,hd,xs,rel,dd⟩:=fZg I.hok e;obtain⟨w',hw,d⟩:=RelO.some_of (by rw[l];exact rel.val k)
  obtain⟨p,G,B⟩:=bO.mp hw;refine wpAny_getItem_heap (tupleKind_room_in1 hu) (key_of I.hok J) dd G ?_;rw[B];exact h w' _ (I.tok _) d
theorem dXg(I:Inv X pins σ H s)(mu:Mut (H a))(hs:dZ a s.heap h')(he:∃q,h'.get? a=some q)(new:ObjOk X.prog X.w (upd H a ob) h' a ob) :
  Inv X pins σ (upd H a ob) {s with heap:=h',toks:=t'} :=
 I.write mu (.inl rfl) (λb q d z=>(hs.2 b d).trans z) he new
theorem gZf(z:kvs.length<=sizeLine)(hd:(a==fj)=false)(rel:KV kvs vs)(dd:h'.DictOf (aQw P w) a vs) :
  ObjOk P w H' h' a (.dK kvs):=⟨z,hd,vs,rel,dd⟩
theorem dXh(hu:A.units+1<bR)(I:Inv X pins σ H s)(g:DPut H a y v H')(ry:RelV y u)(rv:RelV v r)(h:∀s',Inv X pins σ H' s'->Q () s') :
  aD (aE X.prog X.w) A (setItem (.ref a) u r) Q E s:=by
 rcases g with⟨d,k,e,G,l,J⟩|⟨d,k,b,e,G,N,l,J⟩
 ·subst G J;obtain⟨z,hd,vs,rel,dd⟩:=hQ2 I.hok e;have D:vs.length<=sizeLine:=by rw[<- rel.length];exact z
  have hl:(putK d k v).length<=sizeLine:=by have:=bZ5 d k v;lia
  refine wpAny_setItem_pairs (fZe ry) dd λh' j hs=>h _ ?_;have he:∃q,h'.get? a=some q:=let ⟨q,_,_,B,_⟩:=j;⟨q,B⟩
  exact dXg I (by rw[e];exact lq) hs he (gZf hl hd (rel.put k rv) j)
 ·subst G J;cases (ry)
  obtain⟨z,hd,xs,rel,dd⟩:=dt_of I.hok e;have D:xs.length<=sizeLine:=by rw[<- bW rel];exact z
  have hl:(putK d k v).length<=sizeLine:=by have:=bZ5 d k v;lia
  refine wpAny_setItem_heap (tupleKind_room_in1 hu) (key_of I.hok N) dd λh' j hs=>h _ ?_;obtain⟨q,es,Z,B,h2,Y,U,_,O⟩:=j;refine dXg I (by rw[e];exact lq) hs ⟨q,B⟩ ⟨hl,hd,_,(rel.put k N rv).keeps λc ys L=>?_,q,es,Z,B,h2,Y,U,O⟩
  rw[upd_ne (gXz L e (λz=>nomatch z))]
  exact L
end
def NoSl(i:Expr):Prop:=∀ov iv,subscripted i false ov iv=operate [ov,iv] (hU ov iv)
theorem subD_of{T id:String}
  (hl:typeLookup (.type T) "__getitem__"=pure (some (.builtin id))) (hs:NoSl slice)
  (h:aD (aE prog w) A (eval value env) (λo s₁=>aD (aE prog w) A (eval slice env) (λi s₂=>s₂.TypeIs o T/\aD (aE prog w) A (hU o i) Q E s₂) E s₁) E s) :
  aD (aE prog w) A (eval (.Subscript value slice pos) env) Q E s:=by
 refine Subscript_ (cO h (λo s₁ B=>cO B (λi s₂ d=>?_) λ_ _ x=>x) λ_ _ x=>x);obtain⟨D,d⟩:=d;refine aa ?_;rw[getitemInPython_of_ne D.not_modules];refine aa (wpAny_specialOf D hl ?_);have fin:aD (aE prog w) A (subscripted slice false o i) (λr j=>aD (aE prog w) A (letTemporaryGo value o r>>=λ_=>pure r) Q E j) E s₂:=by
  rw[hs o i];exact wpAny_operating (cO d (λr j z=>aa (wpAny_letTemporaryGo (ag z))) λ_ _ x=>x)
 first
  |exact ag (aa fin)
  |exact aa (ag (aa fin))
  |exact aa fin
theorem cZa{σ:St}(I:Inv X pins σ H s)(g:DGet H a y o):s.TypeIs (.ref a) "dict":=by
 rcases g with⟨d,k,e,_,_⟩|⟨d,k,b,e,_,_,_⟩
 ·obtain⟨_,_,vs,_,dd⟩:=fZf I.hok e;exact dd.typeIs
 ·obtain⟨_,_,xs,_,dd⟩:=fZg I.hok e;exact dd.typeIs
def hQ3(td ty:TE):TE:=fun σ H Q=>td σ H λx H1=>ty σ H1 λy H2=>∃a v,x=.ref a/\DGet H2 a y (some v)/\Q v H2
def hQ4(td ty tv:TE):TS:=λD σ H=>tv σ H λv H1=>td σ H1 λx H2=>ty σ H2 λy H3=>∃a H4,x=.ref a/\DPut H3 a y v H4/\D.nx σ H4
section
variable{X:Cx}{o i e value:Expr}{pos pos' tpos:Pos}{td ty tv:TE}
theorem fZh(hu:X.A.units+1<bR)(ho:PE X o td)(hi:PE X i ty)(hs:NoSl i):PE X (.Subscript o i pos) (hQ3 td ty):=by
 intro pins s σ H Q I h;refine subD_of PySem.F.slot_dict_getitem.lookup hs (thn (ho pins s σ H _ I h) λu s1 ⟨x,H1,L,B,G⟩=>thn (hi pins s1 σ H1 _ L G) λO s2 ⟨y,H2,j,z,a,v,ex,g,D⟩=>?_);subst ex;obtain rfl:u=fV a:=B;exact⟨cZa j g,dXf hu j g z λN s3 J d=>⟨v,H2,J,d,D⟩⟩
theorem fZi(hu:X.A.units+1<bR)(ho:PE X o td)(hi:PE X i ty)(hv:PE X value tv)(hs:iA value (some (.Subscript o i pos')) pos.line X.env=pure false) :
  PS X (.Assign [.Subscript o i pos'] value pos) (hQ4 td ty tv):=by
 intro pins s σ H D I h;refine wpAny_Assign_Subscript (thn (hv pins s σ H _ I h) λr s1 ⟨v,H1,U,z,J⟩=>thn (ho pins s1 σ H1 _ U J) λu s2 ⟨x,H2,O,j,G⟩=>thn (hi pins s2 σ H2 _ O G) λZ s3 ⟨y,H3,N,d,a,Y,ex,g,B⟩=>?_) hs;subst ex;obtain rfl:u=fV a:=j;exact dXh hu N g d z λs4 L=>⟨σ,Y,L,B⟩
end
theorem eZ5(h:bd)(hb:fj<h.objs.size):ObjOk P w H (h.push {cls:=.type "dict",data:=.dict #[]}) h.objs.size (.dK []) :=
 ⟨bN _,beq_eq_false_iff_ne.mpr (bX (aN hb)),[],.nil,bd.DictOf.new h⟩
def gZg:TE:=λ_ H Q=>∀p,H p=none->Q (.ref p) (upd H p (.dK []))
section
variable{X:Cx}{pos:Pos}
theorem eZ6:PE X (.Dict [] [] pos) gZg:=λpins s σ H Q I h =>
 wpAny_Dict_empty ⟨.ref s.heap.objs.size,_,I.laid (λ_ _ q=>af _ q) (am _) (eZ5 s.heap I.big),rfl,h _ (I.hok.fresh (am _))⟩
end
section
variable{X:Cx}{K:Fg}{pos:Pos}{k:Nat}
section
variable{elt target iter:Expr}{ifs:List Expr}{gs:List fq}{scope:Scope}{N':List Str}{is:List (Option Nat)}{wi:ID}{g:TG}{gd:GD}{tt:TD}{tv:Addr->TB}{tb:BD}{oc:Option Str}{m:ad->Env->Sem Unit}{b:Bool}
theorem aQq(L L':List Nat)(hcalm:X.calm=true)(hN:X.N.Nodup)
  (hturn:∀it acc env,ff (.ListComp elt (⟨target,iter,ifs,0⟩::gs) scope pos) 0 it acc env=aZ0 target ifs iter.pos (m acc env) (.compLoop (.ListComp elt (⟨target,iter,ifs,0⟩::gs) scope pos) 0 it acc env) it env)
  (cp:Cap X.N scope N' is) (hL:∀σ,Free L (capt is σ)) (hi:PID K X target iter wi) (hgd:CG K L L' g gd)
  (hg:∀cl C fp s H,PG (aQe X N' scope cl C fp s H oc) target g) (ht:∀cl C fp s H,PTs (aQe X N' scope cl C fp s H oc) ifs (upT K tt)) (hbd:bZ3 K L' tv tb) (hb:∀cl C fp s H D,PB (aQe X N' scope cl C fp s H oc) (m (.ref D) (iP scope cl C X.env)) (tv D))
  (hcf:∀n acc,eS n scope.names acc=ocl oc n acc:=by intro _ _;rfl) (hpc:∀h,gY h scope.names=ohp oc h:=by intro _;rfl)
  (hkind:scope.kind=.function:=by rfl) (hcell:∀y∈scope.names,y.2=.cell->oc=some y.1:=by decide +kernel)
  (hu:∀y∈scope.names,scope.names.lookup y.1=some y.2:=by decide +kernel) (hoc:∀x,oc=some x->scope.names.lookup x=some .cell:=by intro x h;cases h <;> rfl)
  (hVb:okV scope.names X.env.scope.names=true:=by first|rfl|kernel_rfl)
  (hs:∀x,cy iter X.env x=pure x:=by intro _;rfl) :
  PD K X (.ListComp elt (⟨target,iter,ifs,0⟩::gs) scope pos) (fZd b is wi gd tt tb):=.of (eQh hcalm hN hturn cp hi.o hg ht hb hcf hpc hkind hcell hu hoc hVb hs) (dX8 hL hgd hbd)
theorem aJ1{pos' spos:Pos}(hix:X.N[i]?=some x)(hx:Loc X.env.scope x)(L L':List Nat)(hcalm:X.calm=true)(hN:X.N.Nodup)
  (hturn:∀it acc env,ff (.ListComp elt (⟨target,iter,ifs,0⟩::gs) scope pos) 0 it acc env=aZ0 target ifs iter.pos (m acc env) (.compLoop (.ListComp elt (⟨target,iter,ifs,0⟩::gs) scope pos) 0 it acc env) it env)
  (cp:Cap X.N scope N' is) (hL:∀σ,Free L (capt is σ)) (hi:PID K X target iter wi) (hgd:CG K L L' g gd)
  (hg:∀cl C fp s H,PG (aQe X N' scope cl C fp s H oc) target g) (ht:∀cl C fp s H,PTs (aQe X N' scope cl C fp s H oc) ifs (upT K tt)) (hbd:bZ3 K L' tv tb) (hb:∀cl C fp s H D,PB (aQe X N' scope cl C fp s H oc) (m (.ref D) (iP scope cl C X.env)) (tv D))
  (hcf:∀n acc,eS n scope.names acc=ocl oc n acc:=by intro _ _;rfl) (hpc:∀h,gY h scope.names=ohp oc h:=by intro _;rfl)
  (hkind:scope.kind=.function:=by rfl) (hcell:∀y∈scope.names,y.2=.cell->oc=some y.1:=by decide +kernel)
  (hu:∀y∈scope.names,scope.names.lookup y.1=some y.2:=by decide +kernel) (hoc:∀x,oc=some x->scope.names.lookup x=some .cell:=by intro x h;cases h <;> rfl)
  (hVb:okV scope.names X.env.scope.names=true:=by first|rfl|kernel_rfl)
  (hs:∀x,cy iter X.env x=pure x:=by intro _;rfl)
  (hsw:iA (.ListComp elt (⟨target,iter,ifs,0⟩::gs) scope pos) (some (.Name x pos')) spos.line X.env=pure true:=by first|rfl|kernel_rfl) (hf:X.fn x=true\/X.env.scope.names.lookup x=some .local:=by first|exact .inl rfl|exact .inr rfl|assumption) :
  PSD K X (.Assign [.Name x pos'] (.ListComp elt (⟨target,iter,ifs,0⟩::gs) scope pos) spos) (dAsg (fZd b is wi gd tt tb) (aZp i)):=.of (fQ2 hix hx hcalm hN hturn cp hi.o hg ht hb hcf hpc hkind hcell hu hoc hVb hs hsw hf) λU σ H B=>B.el λF S Γ E r z q c=>by
 refine dX8 hL hgd hbd σ H _ ⟨F,S,Γ,_,r,z,q,λv d H1 O j G v1 J=>?_⟩;exact c.nx _ O _ H1 j G ((z.ext j).set v1 i) J
end
def dCut(t u:SD):SD:=λE Γ S=>∃M:Gm->Sto->Prop,t {E with nx:=M} Γ S/\∀Γ' S',M Γ' S'->u E Γ' S'
theorem cZb{st:Stmt}(h1:PSD K X st t)(h2:PSsD K X rest u):PSsD K X (st::rest) (dCut t u):=.of (cZt h1.o h2.o) λG σ H ⟨F,S,Γ,E,r,g,⟨M,q,D⟩,c⟩ =>
 ⟨F,S,Γ,{E with nx:=M},r,g,q,fun Γ1 d σ1 H1 j z g1 B=>⟨F,d,Γ1,E,z,g1,D Γ1 d B,c.ext j⟩,c.rt,c.bk,c.ct⟩
abbrev SpD:=List D->Sto->DK->Prop
def spU(K:Fg)(sp:SpD):Sp:=λvs H Q _=>∃F S ds QD,Rp K F S H/\RepL K (mt S F) H ds vs/\sp ds S QD/\Cn K F S H QD Q
theorem aQ3{x:Str}{ps:List Str}{sp:SpD}{p:Pos}{e:Expr}{es:List Expr}{t:AD}(Df':Df X.prog X.w X.K X.mg X.base k x ps (spU K sp))(hr:Room k X.A)(hg:Gl X x)(ha:PAD K X (e::es) t)
  (hdb:(x==("__debug__":Str))=false:=by decide) (he:az (e::es) X.env=(false,eval e X.env)::az es X.env:=by rfl) (hpl:(cC pos (az es X.env)).any (·.1)=false:=by rfl) :
  PD K X (.Call (.Name x p) (e::es) [] pos) (dCB sp t):=.of (eQg Df' hr hg ha.o hdb he hpl) fun σ H Q d=>d.el λF S Γ QD r g q c =>
 ⟨F,S,Γ,_,r,g,q,λvs ds H1 D j z v1 B=>by
  show spU K sp (vs++[]) H1 Q E0;rw[cR];exact⟨F,D,ds,QD,z,v1,B,Cn.shift c j⟩⟩
inductive Frz(S S':Sto):D->D->Prop where
 |same (d:D):Frz S S' d d
 |ref {a:Addr}{xs ys:List D}(h:S a=some (.lst xs)) (h':S' a=none) (l:Frz S S' (.tup xs) (.tup ys)):Frz S S' (.ref a) (.lst ys)
 |nil:Frz S S' (.tup []) (.tup [])
 |cons {d e:D}{ds es:List D}(h:Frz S S' d e) (l:Frz S S' (.tup ds) (.tup es)):Frz S S' (.tup (d::ds)) (.tup (e::es))
theorem dXi(r:Rp K F S H)(hs:∀a o,S' a=some o->S a=some o):∀{d e:D},Frz S S' d e->(∀v,RepV K (mt S F) H d v->RepV K (mt S' F) H e v)/\(∀ds es,d=.tup ds->e=.tup es->∀vs,RepL K (mt S F) H ds vs->RepL K (mt S' F) H es vs):=by
 intro d e h;have kp:Keep (mt S F) H (mt S' F) H:=(Ext.less hs).kp
 induction h with
 |same d=>exact⟨λv h=>h.keep kp,λds es e1 e2 vs l=>by cases e1;cases e2;exact l.keep kp⟩
 |@ref a xs ys h h' l U =>
  refine⟨λv j=>?_,λds es e1=>by cases e1⟩
  rw[rref j];refine hd λGq O=>?_;obtain⟨us,hu,L⟩:=r.obj a _ h;refine O ?_;refine⟨a,us,rfl,.inl ⟨λz=>?_,.inl hu⟩,U.2 xs ys rfl rfl us L⟩;rcases z with z|z
  ·exact z h'
  ·rw[(r.frm a z).2] at h;cases h
 |nil=>exact⟨λv h=>h.keep kp,λds es e1 e2 vs l=>by cases e1;cases e2;exact l.keep kp⟩
 |@cons d e ds es h l G B =>
  have ls:∀vs,RepL K (mt S F) H (d::ds) vs->RepL K (mt S' F) H (e::es) vs:=λvs l=>by
   obtain⟨v,vs,rfl,J,N⟩:=l;exact⟨v,vs,rfl,G.1 v J,B.2 ds es rfl rfl vs N⟩
  refine⟨λv j=>?_,λZ Y e1 e2 vs l=>by cases e1;cases e2;exact ls vs l⟩
  obtain⟨a,us,rfl,t,l⟩:=j;exact⟨a,us,rfl,t.keep kp,ls us l⟩
def rtD(Q:DK):DK:=λd S=>∃d' S',(∀a o,S' a=some o->S a=some o)/\Frz S S' d d'/\Q d' S'
theorem aQ7(h:Q d S):rtD Q d S:=⟨d,S,λ_ _ e=>e,.same d,h⟩
theorem aJ2(hs:∀a o,S' a=some o->S a=some o)(h:Q d S'):rtD Q d S:=⟨d,S',hs,.same d,h⟩
theorem gZh(h:S a=some (.lst xs))(hs:∀a o,S' a=some o->S a=some o)(h':S' a=none)(q:Q (.lst xs) S'):rtD Q (.ref a) S:=⟨.lst xs,S',hs,.ref h h' (.same _),q⟩
def dQ0(Q:DK):EndsD:={nx:=λ_ S=>rtD Q .non S,rt:=rtD Q}
def bQ1(N:List Str)(ds:List D):Gm:=ds.map some++jl (N.length-ds.length) none
theorem bJ0(l:RepL K M H ds vs):RepG K M H (bQ1 N ds) (start N vs):=by
 have j:∀n,RepG K M H (jl n none) (jl n none):=λn=>by
  induction n with
  |zero=>exact rfl
  |succ n z=>exact⟨none,_,rfl,z⟩
 have gen:∀{ds:List D}{vs:List V}{g:Gm}{σ:St},RepL K M H ds vs->RepG K M H g σ->RepG K M H (ds.map some++g) (vs.map some++σ):=by
  intro ds
  induction ds with
  |nil=>intro vs g σ l h;subst l;exact h
  |cons d ds z =>
   intro vs g σ l h;obtain⟨v,vs,rfl,r,l⟩:=l;exact⟨v,_,rfl,r,z l h⟩
 unfold bQ1 start;rw[l.length];exact gen l (j _)
theorem aZ1{st:Stmt}(T:Tx K mg x st)(S:FnScope N ps (aQ5 st))
  (b:∀{f:Addr}{fd:dz},Fun K x x st f fd->Binds K fd ps []) (len:∀ds S Q,sp ds S Q->ds.length=ps.length)
  (h:∀ (f:Addr) (cdv:ad) (A:aW) (outer:List Env) (s:ai) (H:Hp) (E:XK),Room k (A.deeper (jm x (aQ5 st) s.heap.objs.size f cdv)) ->
   ∃t,PSsD K (cxOf CX0 P w K mg base N x (aQ5 st) f cdv A outer s H E).nox (aZb st) t/\∀ds S Q,sp ds S Q->t (dQ0 Q) (bQ1 N ds) S):Df P w K mg base (k+1) x ps (spU K sp):=by
 refine T.df b λ{f fd} Fn=>Fn.ok S (λvs H Q E D=>by obtain⟨F,S,ds,QD,r,l,j,c⟩:=D;rw[l.length];exact len ds S QD j) (λcdv A outer s H vs Q E' O D=>?_)
 refine hd λJ z=>?_;obtain⟨F,S,ds,QD,r,l,j,c⟩:=D;refine z ?_;refine hd λJ z=>?_;obtain⟨t,h1,h2⟩:=h f cdv A outer s H E' O;refine z ?_;have fin:∀v d H' S',Ext S H S' H'->Rp K F S' H'->RepV K (mt S' F) H' d v->rtD QD d S'->Q v H':=λv d H' S' G B v1 L=>by
  refine hd λJ z=>?_;obtain⟨Y,Z,hs,U,q⟩:=L;refine z ?_;exact c v Y H' Z (G.trans (Ext.less hs)) (B.less hs) ((dXi B hs U).1 v v1) q
 exact⟨_,h1.o,F,S,bQ1 N ds,dQ0 QD,r,bJ0 l,h2 ds S QD j,fun Γ' S' σ' H' G B g1 q=>fin .non .non H' S' G B (by rfl) q,fin,λ_ _ _ _ _ _ _ q=>q.elim,λ_ _ _ _ _ _ _ q=>q.elim⟩
theorem gZi:∀{as:List Int},RepL K M H (as.map D.int) (as.map V.int)
 |[]=>RepL.nil
 |a::as=>RepL.cons (by rfl) gZi
def dMt(rd:D->List D->Sto->DK->Prop)(ck:D->Sto->Prop)(to:ED)(t:AD):ED:=fun Γ S Q=>to Γ S λo S1=>ck o S1/\t Γ S1 λds S2=>rd o ds S2 Q
def MtD(K:Fg)(T:String)(r:V->List V->Hp->VK->Prop)(rd:D->List D->Sto->DK->Prop)(ck:D->Sto->Prop):Prop :=
 (∀F S H d x,Rp K F S H->RepV K (mt S F) H d x->ck d S->tyV K T x H)/\∀F S H d ds x vs Q QD,Rp K F S H->RepV K (mt S F) H d x->RepL K (mt S F) H ds vs->rd d ds S QD->Cn K F S H QD Q->r x vs H Q
theorem e_bm{T id:String}{name:Str}{r:V->List V->Hp->VK->Prop}{rd:D->List D->Sto->DK->Prop}{ck:D->Sto->Prop}{o e:Expr}{es:List Expr}{to:ED}{t:AD}{apos cpos:Pos}(M:MtD K T r rd ck)
  (pa:PlainAttrs T) (slot:Slot T name id) (hty:typeOf (.builtin id)=pure (.type "method_descriptor")) (hm:MtR X id r) (ho:PD K X o to) (ha:PAD K X (e::es) t) (hK:X.K=K:=by rfl)
  (hbase:gE o name X.env (eval o X.env)=eval o X.env:=by rfl)
  (hfew:((cC cpos (az (e::es) X.env)).all (λx=>!x.1) && (jq cpos (gi [] X.env)).all (λx=>x.1.isSome)
   && decide ((e::es).length+([]:List hX).length+(if ([]:List hX).isEmpty then 0 else 1)<30))=true:=by rfl)
  (hline:(apos.endLine==cpos.line)=true:=by rfl) (hs:az (e::es) X.env=(false,eval e X.env)::az es X.env:=by rfl) (hplain:(cC cpos (az es X.env)).any (·.1)=false:=by rfl) :
  PD K X (.Call (.Attribute o name apos) (e::es) [] cpos) (dMt rd ck to t):=by
 subst hK;exact .of (gJg pa slot hty hm ho.o ha.o hbase hfew hline hs hplain) fun σ H Q J=>J.el λF S Γ QD r g q c =>
  ⟨F,S,Γ,_,r,g,q,λv d H1 G z B v1 ⟨U,O⟩=>⟨M.1 F G H1 d v B v1 U,F,G,Γ,_,B,g.ext z,O,λvs ds H2 Y j L v2 N=>M.2 F Y H2 d ds v vs Q QD L (v1.ext j) v2 N (Cn.shift c (z.trans j))⟩⟩
def ckL(d:D)(S:Sto):Prop:=match d with
 |.ref a=>∃xs,S a=some (.lst xs)
 |_=>False
theorem ty_L(r:Rp K F S H)(h:RepV K (mt S F) H d x)(c:ckL d S):tyV K "list" x H:=by
 cases d with
 |ref a =>
  refine hd λB j=>?_;obtain⟨xs,z⟩:=c;refine j ?_;rw[rref h];refine hd λB j=>?_;obtain⟨us,hu,_⟩:=r.obj a _ z;refine j ?_;exact .inl ⟨rfl,us,SqL.of hu⟩
 |_=>exact c.elim
theorem Cn.write(c:Cn K F S H QD Q)(r:Rp K F S H){a:Addr}{xs ys:List D}{us ws:List V}(hS:S a=some (.lst xs))(l:RepL K (mt S F) H ys ws){d:D}{v:V}(hv:RepV K (mt S F) H d v)(q:QD d (supd S a (.lst ys))):Q v (upd H a (.lst ws)):=by
 have j:S a≠none:=by rw[hS];exact λz=>by cases z
 have x:Ext S H (supd S a (.lst ys)) (upd H a (.lst ws)):=Ext.write j;exact c v d _ _ x (r.write j ⟨ws,aQ9,l.ext x⟩) (hv.ext x) q
def appD:D->List D->Sto->DK->Prop:=λo ds S Q=>match o,ds with
 |.ref a,[y]=>∃xs,S a=some (.lst xs)/\xs.length<sizeLine/\Q .non (supd S a (.lst (xs++[y])))
 |_,_=>False
theorem gZj:MtD K "list" dQq appD ckL:=⟨λF S H d x r h c=>ty_L r h c,λF S H d ds x vs Q QD r h l q c=>by
 match d,ds,q with
 |.ref a,[y],⟨xs,z,G,q⟩ =>
  obtain⟨v,rfl,B⟩:=l.one;refine hd λJ D=>?_;obtain⟨us,hu,j⟩:=r.obj a _ z;refine D ?_;rw[rref h];exact⟨a,us,v,rfl,rfl,hu,by rw[j.length];exact G,c.write r (us:=us) z (j.app (RepL.cons B RepL.nil)) (by rfl) q⟩⟩
def dXj:D->List D->Sto->DK->Prop:=λo ds S Q=>match o,ds with
 |.ref a,[.int i]=>∃xs j y,S a=some (.lst xs)/\i=(j:Nat)/\(j:Nat)<2^63/\xs[(j:Nat)]?=some y/\Q y (supd S a (.lst (xs.eraseIdx j)))
 |_,_=>False
theorem eZ7:MtD K "list" eXb dXj ckL:=⟨λF S H d x r h c=>ty_L r h c,λF S H d ds x vs Q QD r h l q c=>by
 match d,ds,q with
 |.ref a,[.int i],⟨xs,j,y,G,hi,U,N,q⟩ =>
  obtain⟨v,rfl,L⟩:=l.one;refine hd λZ B=>?_;obtain⟨us,hu,D⟩:=r.obj a _ G;refine B ?_;refine hd λZ B=>?_;obtain⟨z,e1,J⟩:=D.get N;refine B ?_;rw[rref h,rint L];have O:j<us.length:=by
   rcases bU j us.length with z|z
   ·exact z
   ·rw[bL z] at e1;cases e1
  have Y:seqIndex? i us.length=some j:=by
   subst hi
   have:ixN us.length j=some j:=by unfold ixN;rw[if_pos (by lia),if_pos (by lia),cr]
   exact(cQr this).1
  exact⟨a,us,i,j,z,rfl,rfl,hu,by lia,by subst hi;exact_mod_cast U,Y,e1,c.write r (us:=us) G (D.erase j) J q⟩⟩
theorem cXj{o e:Expr}{to:ED}{t:AD}{apos cpos:Pos}(ho:PD K X o to)(ha:PAD K X [e] t)(hK:X.K=K:=by rfl)
  (hbase:gE o "append" X.env (eval o X.env)=eval o X.env:=by rfl)
  (hfew:((cC cpos (az [e] X.env)).all (λx=>!x.1) && (jq cpos (gi [] X.env)).all (λx=>x.1.isSome)
   && decide (([e]:List Expr).length+([]:List hX).length+(if ([]:List hX).isEmpty then 0 else 1)<30))=true:=by rfl)
  (hline:(apos.endLine==cpos.line)=true:=by rfl) (hs:az [e] X.env=(false,eval e X.env)::az [] X.env:=by rfl) (hplain:(cC cpos (az [] X.env)).any (·.1)=false:=by rfl) :
  PD K X (.Call (.Attribute o "append" apos) [e] [] cpos) (dMt appD ckL to t):=e_bm gZj fE PySem.F.slot_list_append PySem.F.type_list_append bJt ho ha hK hbase hfew hline hs hplain
theorem cZc{o e:Expr}{to:ED}{t:AD}{apos cpos:Pos}(ho:PD K X o to)(ha:PAD K X [e] t)(hK:X.K=K:=by rfl)
  (hbase:gE o "pop" X.env (eval o X.env)=eval o X.env:=by rfl)
  (hfew:((cC cpos (az [e] X.env)).all (λx=>!x.1) && (jq cpos (gi [] X.env)).all (λx=>x.1.isSome)
   && decide (([e]:List Expr).length+([]:List hX).length+(if ([]:List hX).isEmpty then 0 else 1)<30))=true:=by rfl)
  (hline:(apos.endLine==cpos.line)=true:=by rfl) (hs:az [e] X.env=(false,eval e X.env)::az [] X.env:=by rfl) (hplain:(cC cpos (az [] X.env)).any (·.1)=false:=by rfl) :
  PD K X (.Call (.Attribute o "pop" apos) [e] [] cpos) (dMt dXj ckL to t):=e_bm eZ7 fE PySem.F.slot_list_pop PySem.F.type_list_pop eQe ho ha hK hbase hfew hline hs hplain
end
def leS(a b:Str):Bool:=!HT.ltS b a
def leT(a b:List Str):Bool:=!HT.lexS b a
theorem aZ6:∀a:List Str,HT.lexS a a=false
 |[]=>rfl
 |x::xs=>by rw[HT.lexS_cons,if_pos rfl,aZ6 xs]
theorem gZk(a b c:Str)(h:leS a b=true)(h':leS b c=true):leS a c=true:=by
 unfold leS at *
 rw[cY] at *
 cases e:HT.ltS c a with
 |false=>rfl
 |true =>
  by_cases d:b=a
  ·subst d;rw[h'] at e;cases e
  ·have:=HT.ltS_tr e (HT.ltS_tot h d)
   rw[h'] at this;cases this
theorem fZj(a b:Str):(leS a b||leS b a)=true:=by
 unfold leS;cases e:HT.ltS b a with
 |false=>rfl
 |true=>rw[HT.ltS_as e];rfl
theorem eZ8(h:leS a b=true)(h':leS b a=true):a=b:=by
 unfold leS at *
 rw[cY] at *
 exact aK λn=>by
  have:=HT.ltS_tot h (λz=>n z.symm)
  rw[h'] at this;cases this
theorem eXv(a b c:List Str)(h:leT a b=true)(h':leT b c=true):leT a c=true:=by
 unfold leT at *
 rw[cY] at *
 cases e:HT.lexS c a with
 |false=>rfl
 |true =>
  by_cases d:b=a
  ·subst d;rw[h'] at e;cases e
  ·have:=HT.lexS_tr e (HT.lexS_tot h d)
   rw[h'] at this;cases this
theorem dXk(a b:List Str):(leT a b||leT b a)=true:=by
 unfold leT;cases e:HT.lexS b a with
 |false=>rfl
 |true=>rw[HT.lexS_as e];rfl
theorem eZ9(h:leT a b=true)(h':leT b a=true):a=b:=by
 unfold leT at *
 rw[cY] at *
 exact aK λn=>by
  have:=HT.lexS_tot h (λz=>n z.symm)
  rw[h'] at this;cases this
def srS(l:List Str):List Str:=l.mergeSort leS
def srT(l:List (List Str)):List (List Str):=l.mergeSort leT
def srI(l:List Int):List Int:=l.mergeSort λa b=>decide (a<=b)
theorem aZr(l:List Str):(srS l).Perm l:=gz _ _
theorem aXp(l:List (List Str)):(srT l).Perm l:=gz _ _
theorem eZa(l:List Int):(srI l).Perm l:=gz _ _
theorem bX8(l:List Str):(srS l).Pairwise λa b=>leS a b=true:=fF gZk fZj l
theorem cXk(l:List (List Str)):(srT l).Pairwise λa b=>leT a b=true:=fF eXv dXk l
theorem gZl(l:List Int):(srI l).Pairwise λa b=>decide (a<=b)=true:=fF (le:=λa b=>decide (a<=b)) (λa b c h h'=>decide_eq_true (Int.le_trans (of_decide_eq_true h) (of_decide_eq_true h'))) (λa b=>by
 rcases Int.le_total a b with h|h
 ·rw[decide_eq_true h];rfl
 ·rw[decide_eq_true h,Bool.or_true]) l
theorem gZm(p:out.Perm l)(h:out.Pairwise λa b=>HT.ltS b a=false):out=srS l :=
 (p.trans (aZr l).symm).eq_of_pairwise (λ_ _ _ _ h h'=>eZ8 h h') (h.imp λh=>by unfold leS;rw[h];rfl) (bX8 l)
theorem gZn(p:out.Perm l)(h:out.Pairwise λa b=>HT.lexS a b=true):out=srT l :=
 (p.trans (aXp l).symm).eq_of_pairwise (λ_ _ _ _ h h'=>eZ9 h h') (h.imp λh=>by unfold leT;rw[HT.lexS_as h];rfl) (cXk l)
theorem gZo{l out:List Int}(p:out.Perm l)(h:out.Pairwise (·<=·)):out=srI l :=
 (p.trans (eZa l).symm).eq_of_pairwise (λ_ _ _ _ h h'=>Int.le_antisymm (of_decide_eq_true h) (of_decide_eq_true h')) (h.imp λh=>decide_eq_true h) (gZl l)
section
variable{X:Cx}{K:Fg}{pos:Pos}{k:Nat}{e:Expr}{t:AD}{p:Pos}
theorem dXl:∀{as:List Int}{xs:List V},RepL K M H (as.map D.int) xs->xs=as.map V.int
 |[],xs,h=>by rw[e5] at h;exact h
 |a::as,xs,h=>by
  rw[a8] at h;obtain⟨v,vs,rfl,r,l⟩:=h;rw[r,dXl l];rfl
theorem dXm:∀{as:List Int},RepL K M H (as.map D.int) (as.map V.int)
 |[]=>RepL.nil
 |a::as=>RepL.cons (by rfl) dXm
theorem dXn:∀{as:List Str}{xs:List V},RepL K M H (as.map D.str) xs->xs=as.map V.str
 |[],xs,h=>by rw[e5] at h;exact h
 |a::as,xs,h=>by
  rw[a8] at h;obtain⟨v,vs,rfl,r,l⟩:=h;rw[r,dXn l];rfl
theorem dXo:∀{as:List Str},RepL K M H (as.map D.str) (as.map V.str)
 |[]=>RepL.nil
 |a::as=>RepL.cons (by rfl) dXo
def keyD:Key->D
 |.inl i=>.int i
 |.inr x=>.str x
def srcIs(S:Sto)(d:D)(xs:List D):Prop:=match d with
 |.tup ys=>xs=ys
 |.lst ys=>xs=ys
 |.ref a=>S a=some (.lst xs)\/∃kvs,S a=some (.dk kvs)/\xs=kvs.map λp=>keyD p.1
 |_=>False
theorem dXp:∀{ks:List (Key×V)}{kvs:List (Key×D)},bc (λp q=>p.1=q.1/\RepV K M H q.2 p.2) ks kvs->RepL K M H (kvs.map λp=>keyD p.1) (ks.map λp=>kV p.1)
 |_,_,.nil=>RepL.nil
 |_,_,.cons (a:=a) (b:=b) h l=>by
  refine RepL.cons ?_ (dXp l);show RepV K M H (keyD b.1) (kV a.1);rw[h.1];cases b.1 <;> (rfl)
theorem srcIs.src(r:Rp K F S H){d:D}{v:V}{xs:List D}(h:RepV K (mt S F) H d v)(l:srcIs S d xs):∃us,Src K H v us/\RepL K (mt S F) H xs us:=by
 cases d with
 |tup ys=>cases l;obtain⟨a,us,rfl,sq,l⟩:=tup.st h;exact⟨us,⟨a,rfl,.inr (.inl sq)⟩,l⟩
 |lst ys=>cases l;obtain⟨a,us,rfl,sq,l⟩:=lsIs.sl r h (rfl);exact⟨us,⟨a,rfl,.inl sq⟩,l⟩
 |ref a =>
  rw[rref h];rcases l with l|⟨z,l,rfl⟩
  ·obtain⟨us,hu,j⟩:=r.obj a _ l;exact⟨us,⟨a,rfl,.inl (SqL.of hu)⟩,j⟩
  ·obtain⟨B,hu,j⟩:=r.obj a _ l;exact⟨_,⟨a,rfl,.inr (.inr ⟨B,hu,rfl⟩)⟩,dXp j⟩
 |_=>exact l.elim
def tupS(t:List Str):D:=.tup (t.map D.str)
def srtD(b:Bool):RCD:=λds S Q=>match ds with
 |[d]=>(∃ss:List Str,srcIs S d (ss.map D.str)/\ss.length<64/\newL b ((srS ss).map D.str) S Q)\/(∃ns:List Int,srcIs S d (ns.map D.int)/\ns.length<64/\newL b ((srI ns).map D.int) S Q) \/
  ∃ts:List (List Str),srcIs S d (ts.map tupS)/\ts.Nodup/\ts.length<64/\newL b ((srT ts).map tupS) S Q
 |_=>False
def hQ5(K:Fg):List V->Hp->VK->Prop:=λxs H Q=>gZb K xs H Q\/gZc K xs H Q\/gZd K xs H Q
theorem cZd:∀{ts:List (List Str)}{us:List V},RepL K (mt S F) H (ts.map tupS) us->bc (dT K dS H) us ts
 |[],us,h=>by rw[e5] at h;subst h;exact .nil
 |a::as,xs,h=>by
  rw[a8] at h;obtain⟨v,vs,rfl,r,l⟩:=h;exact .cons (cZ7 r) (cZd l)
theorem dXq(l:RepL K M H ds us):∀(idx:List Nat),(∀i∈idx,i<us.length)->RepL K M H (idx.map λi=>ds.getD i .non) (idx.map λi=>us.getD i .non)
 |[],_=>RepL.nil
 |i::idx,h=>by
  have hi:=h i aj;refine RepL.cons ?_ (dXq l idx λj z=>h j (ak _ z));obtain⟨d,B,rd⟩:=l.get' (ah hi);show RepV K M H (ds.getD i .non) (us.getD i .non);rw[ay,ay,B,ah hi];exact rd
theorem gZp:bZr K (hQ5 K) (srtD b):=by
 intro F S H ds vs Q QD r l h c
 match ds,h with
 |[d],h =>
  obtain⟨v,rfl,G⟩:=l.one;rcases h with⟨ss,h1,j,q⟩|⟨ss,h1,j,q⟩|⟨ts,h1,nd,j,q⟩
  ·obtain⟨us,hs,z⟩:=h1.src r G;rw[dXn z] at hs;exact .inl ⟨v,ss,rfl,hs,j,λp out B L J=>by
    rw[gZm L J];exact c.new r B dXo q⟩
  ·obtain⟨us,hs,z⟩:=h1.src r G;rw[dXl z] at hs;exact .inr (.inl ⟨v,ss,rfl,hs,j,λp out B L J=>by
    rw[gZo L J];exact c.new r B dXm q⟩)
  ·obtain⟨us,hs,z⟩:=h1.src r G;refine .inr (.inr ⟨v,us,ts,rfl,hs,cZd z,nd,j,λp idx B Y U O=>c.new r B ?_ q⟩);have hl:=z.length;rw[ae] at hl;have D:∀i∈idx,i<us.length:=λi hi=>aU.mp (Y.mem_iff.mp hi)
   have:=dXq z idx D
   rw[<- gZn O U,bi];have e:(idx.map λi=>(ts.map tupS).getD i .non)=idx.map (tupS∘λi=>ts.getD i []):=gy λi hi=>by
    have N:i<ts.length:=by have:=D i hi;lia
    show(ts.map tupS).getD i .non=tupS (ts.getD i []);rw[ay,ay,aY,ah N]
    rfl
   rw[<- e];exact this
theorem aZ7{b:Bool}(hr:Room k X.A)(hg:Gl X "sorted")(hm:X.mg "sorted"=none)(ha:PAD K X [e] t)(hK:X.K=K:=by rfl)(hc:X.calm=true:=by rfl)(he:az [e] X.env=(false,eval e X.env)::az [] X.env:=by rfl)(hpl:(cC pos (az [] X.env)).any (·.1)=false:=by rfl):PD K X (.Call (.Name "sorted" p) [e] [] pos) (dCB (srtD b) t):=aXz ((dXc hK hc).or ((dXd hK hc).or (dXe (lt10 hr) hK hc))) gZp hg hm aJ5 ha (by decide) (by decide) he hpl
def putG{β:Type}(kvs:List (Key×β))(key:Key)(v:β):List (Key×β) :=
 if (kvs.any λkv=>decide (kv.1=key))=true then kvs.map (λkv=>if kv.1=key then (kv.1,v) else kv) else kvs++[(key,v)]
theorem eZb(rv:RepV K M H d v){ks:List (Key×V)}{kvs:List (Key×D)}(l:bc (λp q=>p.1=q.1/\RepV K M H q.2 p.2) ks kvs):bc (λp q=>p.1=q.1/\RepV K M H q.2 p.2) (putK ks key v) (putG kvs key d):=by
 have j:(ks.any λB=>decide (B.1=key))=kvs.any λB=>decide (B.1=key):=by
  induction l with
  |nil=>rfl
  |cons h _ z=>rw[gJ,gJ,h.1,z]
 unfold putK putG;rw[j]
 split
 ·rename_i G;clear j G
  induction l with
  |nil=>exact .nil
  |@cons a b as bs h _ z =>
   refine .cons ?_ z;show(if a.1=key then (a.1,v) else a).1=(if b.1=key then (b.1,d) else b).1/\RepV K M H (if b.1=key then (b.1,d) else b).2 (if a.1=key then (a.1,v) else a).2
   rw[h.1]
   split
   ·exact⟨rfl,rv⟩
   ·exact h
 ·rename_i G;clear j G
  induction l with
  |nil=>exact .cons ⟨rfl,rv⟩ .nil
  |cons h _ z=>exact .cons h z
def dkey:D->Option Key
 |.int i=>some (.inl i)
 |.str x=>some (.inr x)
 |_=>none
theorem cXl(h:RepV K M H d v)(e:dkey d=some key):v=kV key:=by
 cases d <;> first|(cases e;exact h)|cases e
def hQ6:ED:=λ_ S Q=>∀p,S p=none->Q (.ref p) (supd S p (.dk []))
theorem gZq:PD K X (.Dict [] [] pos) hQ6:=.of eZ6 fun σ H Q j=>j.el λF S Γ QD r g q c=>λp d =>
 c (.ref p) (.ref p) _ (supd S p (.dk [])) (Ext.mk' d) (r.mk' d ⟨[],aQ9,.nil⟩) (by rfl) (q p (r.sn d))
def hQ7(td ty tv:ED):SD:=λE Γ S=>tv Γ S λv S1=>td Γ S1 λo S2=>ty Γ S2 λy S3=>match o with
 |.ref a=>∃kvs key,S3 a=some (.dk kvs)/\dkey y=some key/\kvs.length<sizeLine/\E.nx Γ (supd S3 a (.dk (putG kvs key v)))
 |_=>False
theorem fZk(hr:Room k X.A)(ho:PD K X o td)(hi:PD K X i ty)(hv:PD K X value tv)(hs:iA value (some (.Subscript o i pos')) pos.line X.env=pure false:=by rfl) :
  PSD K X (.Assign [.Subscript o i pos'] value pos) (hQ7 td ty tv):=.of (fZi (lt10 hr) ho.o hi.o hv.o hs) λD' σ H z0=>z0.el λF S Γ E r g q c =>
 ⟨F,S,Γ,_,r,g,q,λv d H1 S1 L r1 v1 q1=>⟨F,S1,Γ,_,r1,g.ext L,q1,λx od H2 S2 J r2 v2 q2=>⟨F,S2,Γ,_,r2,g.ext (L.trans J),q2,λy yd Y U G Z v3 B=>by
  cases od with
  |ref a =>
   obtain⟨N,key,hS,hk,hz,B⟩:=B;obtain⟨O,hu,lu⟩:=Z.obj a _ hS;have j:U a≠none:=by rw[hS];exact λz=>by cases z
   have D:Ext U Y (supd U a (.dk (putG N key d))) (upd Y a (.dK (putK O key v))):=Ext.write j;refine⟨a,upd Y a (.dK (putK O key v)),rref (v2.ext G),?_,?_⟩
   ·rw[cXl v3 hk];exact .inl ⟨O,key,hu,rfl,by rw[bW lu];exact hz,rfl⟩
   ·have x:=L.trans (J.trans (G.trans D));refine c.nx Γ _ σ _ x (Z.write j ⟨_,aQ9,?_⟩) (g.ext x) B;exact eZb (v1.ext (J.trans (G.trans D))) (Paired.imp (λ_ _ z=>⟨z.1,z.2.ext D⟩) lu)
  |_=>exact B.elim⟩⟩⟩
end
theorem md{a b:Int}(h:0<b):0<=a%b/\a%b<b:=⟨Int.emod_nonneg _ (by lia),Int.emod_lt_of_pos _ h⟩
theorem aJa(I:Nat->List D->Sto->Prop)(h0:I 0 acc S)
  (hs:∀i x acc S (N:List D->Sto->Prop),xs[i]?=some x->I i acc S->(∀acc' S',I (i+1) acc' S'->N acc' S')->G S/\g x Γ0 S fun Γ2 S2=>tt Γ2 S2 λb S3=>if b=true then tb Γ2 S3 acc N else N acc S3)
  (hd:∀acc S,I xs.length acc S->G S/\Q acc S):aZn g tt tb G Γ0 xs acc S Q:=by
 have gen:∀n i acc S,i+n=xs.length->I i acc S->aZn g tt tb G Γ0 (xs.drop i) acc S Q:=by
  intro n
  induction n with
  |zero =>
   intro i acc S hi h;have e:i=xs.length:=by lia
   subst e;rw[fD];exact hd acc S h
  |succ n j =>
   intro i acc S hi h;have d:i<xs.length:=by lia
   rw[aX8 d];exact hs i xs[i] acc S (λacc' z=>aZn g tt tb G Γ0 (xs.drop (i+1)) acc' z Q) (ah d) h λacc' S' h'=>j (i+1) acc' S' (by lia) h'
 simpa using gen xs.length 0 acc S (by lia) h0
theorem aZk(I:Nat->Gm->Sto->Prop)(h0:I 0 Γ S)
  (hs:∀i x Γ S (N:Gm->Sto->Prop),xs[i]?=some x->I i Γ S->(∀Γ' S',I (i+1) Γ' S'->N Γ' S')->G S/\g x Γ S fun Γ2 S2=>tb {E with nx:=N,ct:=N,bk:=E.nx} Γ2 S2)
  (hd:∀Γ S,I xs.length Γ S->G S/\E.nx Γ S):forD g tb G E xs Γ S:=by
 have gen:∀n i Γ S,i+n=xs.length->I i Γ S->forD g tb G E (xs.drop i) Γ S:=by
  intro n
  induction n with
  |zero =>
   intro i Γ S hi h;have e:i=xs.length:=by lia
   subst e;rw[fD];exact hd Γ S h
  |succ n j =>
   intro i Γ S hi h;have d:i<xs.length:=by lia
   rw[aX8 d];exact hs i xs[i] Γ S (forD g tb G E (xs.drop (i+1))) (ah d) h fun Γ' S' h'=>j (i+1) Γ' S' (by lia) h'
 simpa using gen xs.length 0 Γ S (by lia) h0
theorem aQn{α:Type}{i:Nat}{te:ED}{Γ0:Gm}{S:Sto}{Q:List D->Sto->Prop}{enc:α->D}{f:α->D}{xs:List α}{acc:List D}(h:∀x∈xs,∀Q:DK,Q (f x) S->te (Γ0.set i (some (enc x))) S Q)(hn:acc.length+xs.length<=sizeLine)
  (q:Q (acc++xs.map f) S):aZn (aZp i) dYes (bXw te) (λ_=>True) Γ0 (xs.map enc) acc S Q:=by
 induction xs generalizing acc with
 |nil=>exact⟨trivial,by simpa using q⟩
 |cons x xs j =>
  refine⟨trivial,?_⟩;refine h x aj _ ⟨by simp at hn;lia,j (λy z=>h y (ak _ z)) (by simp at hn ⊢;lia) (by simpa using q)⟩
theorem aQt{α:Type}{i:Nat}{tt:TD}{te:ED}{Γ0:Gm}{S:Sto}{Q:List D->Sto->Prop}{enc:α->D}{p:α->Bool}{f:α->D}{xs:List α}{acc:List D}(ht:∀x∈xs,∀Q:Bool->Sto->Prop,Q (p x) S->tt (Γ0.set i (some (enc x))) S Q)(h:∀x∈xs,p x=true->∀Q:DK,Q (f x) S->te (Γ0.set i (some (enc x))) S Q)(hn:acc.length+xs.length<=sizeLine)
  (q:Q (acc++(xs.filter p).map f) S):aZn (aZp i) tt (bXw te) (λ_=>True) Γ0 (xs.map enc) acc S Q:=by
 induction xs generalizing acc with
 |nil=>exact⟨trivial,by simpa using q⟩
 |cons x xs j =>
  refine⟨trivial,?_⟩;refine ht x aj _ ?_;cases hp:p x with
  |true =>
   rw[if_pos rfl];refine h x aj hp _ ⟨by simp at hn;lia,j (λy d=>ht y (ak _ d)) (λy d=>h y (ak _ d)) (by simp at hn ⊢;lia) ?_⟩
   rw[cH,hp] at q;simpa using q
  |false =>
   rw[if_neg (by simp)]
   refine j (λy d=>ht y (ak _ d)) (λy d=>h y (ak _ d)) (by simp at hn ⊢;lia) ?_
   rw[cH,hp] at q;simpa using q
def sg(c:Nat):Str:=⟨#[c]⟩
theorem aJb{α:Type}(f:α->D)(xs:List α)(lo hi:Option Int):cutD (xs.map f) lo hi=((xs.drop (HT.sIx xs.length 0 lo)).take (HT.sIx xs.length xs.length hi-HT.sIx xs.length 0 lo)).map f:=by
 unfold cutD;rw[ae,List.map_take,List.map_drop]
theorem fZl(f:α->β)(xs:List α)(i:Int):atI (xs.map f) i=(atI xs i).map f:=by
 unfold atI;rw[ae];cases ixN xs.length i with
 |none=>rfl
 |some j=>simp
theorem fZm(n:Nat):rngD 0 n=(aI n).map λi=>.int i:=by
 apply h9;intro i
 by_cases h:i<n
 ·have h1:i<(rngD 0 n).length:=by rw[aZq];exact h
  obtain⟨_,e⟩:=bQd n 0 i _ (ah h1);rw[ah h1,e,aY,List.getElem?_range h];simp
 ·rw[bL (by rw[aZq];lia),bL (by simp;lia)]
theorem eXw(h:(rngD 0 n)[i]?=some x):i<n/\x=.int i:=by
 obtain⟨h1,h2⟩:=bQd n 0 i x h;exact⟨h1,by rw[h2,kA]⟩
def Off(a:Addr)(S S':Sto):Prop:=∀b,b≠a->S' b=S b
theorem Off.trans(h:Off a S S1)(h':Off a S1 S2):Off a S S2:=λb d=>(h' b d).trans (h b d)
section
variable{X:Cx}{K:Fg}{pos:Pos}{k:Nat}{e:Expr}{te:ED}
def hQ8(d:D)(S:Sto)(Q:DK):Prop:=(∃ts:List (List Str),d=.tup (ts.map tupS)/\ts.length+1<=300/\∀n:Nat,SzOk ts n->Q (.int n) S)\/∃ss:List Str,d=.lst (ss.map D.str)/\ss.length+1<=300/\∀n:Nat,SzOk ss n->Q (.int n) S
def hQ9(te:ED):ED:=fun Γ S Q=>te Γ S λd S1=>hQ8 d S1 Q
theorem eXx{p p' pos':Pos}(hr:Room k X.A)(hg:Gl X "len")(hm:X.mg "len"=none)(hg':Gl X "set")(hm':X.mg "set"=none)(he:PD K X e te)(hK:X.K=K:=by rfl)(hc:X.calm=true:=by rfl)
  (h1:az [e] X.env=(false,eval e X.env)::az [] X.env:=by rfl) (h2:az [Expr.Call (.Name "set" p') [e] [] pos'] X.env=(false,eval (Expr.Call (.Name "set" p') [e] [] pos') X.env)::az [] X.env:=by rfl) (h3:(cC pos (az [] X.env)).any (·.1)=false:=by rfl) (h4:(cC pos' (az [] X.env)).any (·.1)=false:=by rfl) :
  PD K X (.Call (.Name "len" p) [.Call (.Name "set" p') [e] [] pos'] [] pos) (hQ9 te) :=
 .of (bQ8 dZe hg hm dQv (aJj (bQh ((cZ1 (lt64 hr) hK hc).or (cZ2 (lt64 hr) hK hc)) hg' hm' eXe (aJj he.o bX0 h1) (by decide) (by decide) h1 h4) bX0 h2) (by decide) (by decide) h2 h3) fun σ H Q J=>J.el λF S Γ QD r g q c =>
 ⟨F,S,Γ,_,r,g,q,λv d H1 G L N v1 O=>by
  have go:∀(n p:Nat) (B:n<300),H1 p=none->QD (.int n) G->∃p' D,[V.ref p]=[V.ref p']/\upd H1 p (szO p n) p'=some (szO p' D)/\D<1000000/\Q (.int D) (upd H1 p (szO p n)):=λn p B j U =>
   ⟨p,n,rfl,aQ9,by lia,c (.int n) (.int n) _ G (L.trans (Ext.same (aQx j))) (N.same (aQx j)) (by rfl) U⟩
  rcases O with⟨ts,rfl,B,q⟩|⟨ss,rfl,B,q⟩
  ·obtain⟨a,us,rfl,t,l⟩:=v1;exact .inl ⟨_,ts,rfl,⟨a,us,rfl,t.sq,cZd l⟩,B,λp n j z=>go n p (by have:=z.1;lia) j (q n z)⟩
  ·obtain⟨a,us,rfl,t,l⟩:=v1;exact .inr ⟨_,ss,rfl,⟨a,us,rfl,t.sq,bZ0 l⟩,B,λp n j z=>go n p (by have:=z.1;lia) j (q n z)⟩⟩
end
end L2
set_option maxHeartbeats 1000000
namespace L2
open PySem PySem.Spec PyProof.Rows
section
variable{X:Cx}{K:Fg}{pos:Pos}{k:Nat}
def exrD:D->List D->Sto->DK->Prop:=λo ds S Q=>match o,ds with
 |.ref a,[.ref b]=>∃xs ys,S a=some (.lst xs)/\S b=some (.lst ys)/\xs.length+ys.length<=sizeLine/\Q .non (supd S a (.lst (xs++ys)))
 |_,_=>False
theorem gZr:MtD K "list" dQr exrD ckL:=⟨λF S H d x r h c=>ty_L r h c,λF S H d ds x vs Q QD r h l q c=>by
 match d,ds,q with
 |.ref a,[.ref b],⟨xs,ys,B,j,G,q⟩ =>
  obtain⟨v,rfl,D⟩:=l.one;obtain⟨us,hu,z⟩:=r.obj a _ B;obtain⟨ws,hw,lw⟩:=r.obj b _ j;rw[rref h,rref D];exact⟨a,b,us,ws,rfl,rfl,hu,hw,by rw[z.length,lw.length];exact G,c.write r (us:=us) B (z.app lw) (by rfl) q⟩⟩
theorem cXm{o e:Expr}{to:ED}{t:AD}{apos cpos:Pos}(ho:PD K X o to)(ha:PAD K X [e] t)(hK:X.K=K:=by rfl)
  (hbase:gE o "extend" X.env (eval o X.env)=eval o X.env:=by rfl)
  (hfew:((cC cpos (az [e] X.env)).all (λx=>!x.1) && (jq cpos (gi [] X.env)).all (λx=>x.1.isSome)
   && decide (([e]:List Expr).length+([]:List hX).length+(if ([]:List hX).isEmpty then 0 else 1)<30))=true:=by rfl)
  (hline:(apos.endLine==cpos.line)=true:=by rfl) (hs:az [e] X.env=(false,eval e X.env)::az [] X.env:=by rfl) (hplain:(cC cpos (az [] X.env)).any (·.1)=false:=by rfl) :
  PD K X (.Call (.Attribute o "extend" apos) [e] [] cpos) (dMt exrD ckL to t):=e_bm gZr fE jT jU dQs ho ha hK hbase hfew hline hs hplain
def cXn(r r':R2D)(ta tb tc:ED):ED:=fun Γ S Q=>ta Γ S λx S1=>tb Γ S1 λy S2=>r x y S2 λz S3=>∃k,z=.bl k/\(if k=true then tc Γ S3 λw S4=>r' y w S4 Q else Q (.bl false) S3)
theorem eZc(h:OpD K r rd)(h':OpD K r' rd'):∀σ H Q,upE K (cXn rd rd' ta tb tc) σ H Q->eX9 r r' (upE K ta) (upE K tb) (upE K tc) σ H Q:=fun σ H Q U=>U.el λF S Γ QD r g q c =>
 ⟨F,S,Γ,_,r,g,q,λx d H1 S1 D r1 v1 q1=>⟨F,S1,Γ,_,r1,g.ext D,q1,λy e H2 S2 B r2 v2 q2=>h F S2 H2 d e x y _ _ r2 (v1.ext B) v2 q2 λv z H3 O j L G ⟨kk,e3,N⟩=>by
  subst e3;refine⟨kk,rbl G,?_⟩;cases kk with
  |true=>exact⟨F,O,Γ,_,L,g.ext (D.trans (B.trans j)),N,λw f H4 S4 J Z v4 q4=>h' F S4 H4 e f y w Q QD Z (v2.ext (j.trans J)) v4 q4 λv z H5 S5 Y=>c v z H5 S5 (D.trans (B.trans (j.trans (J.trans Y))))⟩
  |false=>exact c _ _ _ O (D.trans (B.trans j)) L (rbl G▸G) N⟩⟩
theorem cXo(ho:OpR X (cq op) r)(ho':OpR X (cq op') r')(h:OpD K r rd)(h':OpD K r' rd')(ha:PD K X a ta)(hb:PD K X b tb)(hc:PD K X c tc)
  (hm:lastMarks [op,op'] [b,c]=false:=by with_unfolding_all rfl):PTD K X (.Compare a [op,op'] [b,c] pos) (aXq (cXn rd rd' ta tb tc)):=.of (eQ7 ho ho' ha.o hb.o hc.o hm) fun σ H Q q=>eZc h h' σ H _ (by
 obtain⟨F,S,Γ,QD,r,g,q,c⟩:=q;refine⟨F,S,Γ,_,r,g,q,λv d H1 D j z v1 ⟨b,e,B⟩=>?_⟩;subst e;exact⟨b,rbl v1,c b H1 D j z B⟩)
theorem cZe(ha:PD K X a ta)(hb:PD K X b tb)(hc:PD K X c tc)(hm:lastMarks [.LtE,.LtE] [b,c]=false:=by with_unfolding_all rfl) :
  PTD K X (.Compare a [.LtE,.LtE] [b,c] pos) (aXq (cXn (iiD0 λi j=>.bl (decide (i<=j))) (iiD0 λi j=>.bl (decide (i<=j))) ta tb tc)):=cXo eQ6 eQ6 cZ5 cZ5 ha hb hc hm
theorem fZn(ha:PD K X a ta)(hb:PD K X b tb)(hc:PD K X c tc)(hm:lastMarks [.Lt,.LtE] [b,c]=false:=by with_unfolding_all rfl) :
  PTD K X (.Compare a [.Lt,.LtE] [b,c] pos) (aXq (cXn (iiD0 λi j=>.bl (decide (i<j))) (iiD0 λi j=>.bl (decide (i<=j))) ta tb tc)):=cXo op_lt eQ6 cZ5 cZ5 ha hb hc hm
end
end L2
set_option maxHeartbeats 4000000
namespace L2
open PySem PySem.Spec PyProof.Rows
section
variable{X:Cx}{K:Fg}{pos:Pos}{k:Nat}
theorem fZo{σ:St}(I:Inv X pins σ H s)(hz:xs.length<=sizeLine)(r:Vals xs acc.toList)(hk:∀b o,s.heap.get? b=some o->h'.get? b=some o)
  (hp:h'.get? s.heap.objs.size=some {cls:=.type "list",dict:=none,data:=.seq acc c,slots:=#[]}) (q:∀l,H l=none->Q (.ref l) (upd H l (.lst xs))):EP X pins σ Q (.ref s.heap.objs.size) {s with heap:=h',toks:=tk}:=by
 refine⟨.ref s.heap.objs.size,_,I.laid hk (am _) ?_,rfl,q _ (I.hok.fresh (am _))⟩;exact⟨hz,acc.toList,c,r,by rw[Array.toArray_toList];exact hp⟩
theorem dXr:∀{xs:List V}{us:List ad},xs.length=us.length->(∀(i:Nat) (x:V) (u:ad),xs[i]?=some x->us[i]?=some u->RelV x u)->Vals xs us
 |[],[],_,_=>.nil
 |[],_::_,h,_=>by simp at h
 |_::_,[],h,_=>by simp at h
 |x::xs,u::us,h,d=>.cons (d 0 x u rfl rfl) (dXr (by simpa using h) λi y v h1 h2=>d (i+1) y v (by simpa using h1) (by simpa using h2))
theorem dQ1(hc:X.calm=true:=by rfl):CallR X (.type "list") (λxs H Q=>∃x:Str,xs=[.str x]/\x.length<=1000/\∀l,H l=none->Q (.ref l) (upd H l (.lst (x.cps.toList.map λc=>.str ⟨#[c]⟩)))):=by
 intro pins s σ H xs us Q I r h;obtain⟨x,rfl,B,q⟩:=h;obtain⟨u,rfl,z⟩:=aX4 r;obtain⟨t,rfl⟩:=z;have hl:x.cps.size<=1000:=B;refine call_list_str (I.ok.hd hc) x t (λh' J acc c G D it=>fZo I (by rw[ae,aT,aZ];lia) ?_ G D q) (by rw[aZ];lia)
 refine dXr (by rw[ae,aT,aT,it.1]) λi y u h1 h2=>?_
 obtain⟨L,j,d,rfl⟩:=it.2 i u (by rw[<- br];exact h2)
 rw[aY,br,d] at h1;cases h1;exact⟨j,rfl⟩
def lsSD(b:Bool):RCD:=λds S Q=>match ds with
 |[.str x]=>x.length<=1000/\newL b (x.cps.toList.map λc=>.str ⟨#[c]⟩) S Q
 |_=>False
theorem cXp:∀cs:List Nat,RepL K M H (cs.map λc=>D.str ⟨#[c]⟩) (cs.map λc=>V.str ⟨#[c]⟩)
 |[]=>RepL.nil
 |c::cs=>RepL.cons (by rfl) (cXp cs)
theorem dXs{b:Bool}{e:Expr}{t:AD}{p:Pos}(hg:Gl X "list")(hm:X.mg "list"=none)(ha:PAD K X [e] t)(hc:X.calm=true:=by rfl)(he:az [e] X.env=(false,eval e X.env)::az [] X.env:=by rfl)(hpl:(cC pos (az [] X.env)).any (·.1)=false:=by rfl):PD K X (.Call (.Name "list" p) [e] [] pos) (dCB (lsSD b) t):=bXv (dQ1 hc) (by
 intro F S H ds vs Q QD r l h c
 match ds,h with
 |[.str x],⟨j,q⟩ =>
  obtain⟨v,rfl,d⟩:=l.one;rw[rstr d];exact⟨x,rfl,j,λp z=>c.new r z (cXp _) q⟩) hg hm dQw ha (by decide) (by decide) he hpl
end
end L2
set_option maxHeartbeats 1000000
namespace L2
open PySem PySem.Spec PyProof.Rows
def Its(x:Str):It:=⟨λi _=>i<x.cps.size,λi H v H'=>H'=H/\∃c,x.cps[i]?=some c/\v=.str ⟨#[c]⟩,λi _=>i=x.cps.size⟩
theorem cXq{K:Fg}(x:Str)(t:Tok)(ty:String)(it:Addr)(hty:["enumerate", "zip", "dict_itemiterator", "dict_reverseitemiterator", "odict_iterator", "itertools.zip_longest", "itertools.pairwise"].contains ty=false)
  (W:∀A:aW,A.handled=none->Walks P w A it [it] [it] x.cps.size (SignAt x) (λi h=>h.IsStrIter it ty x t i)) (hs:∀(A:aW) (i:Nat) (s:ai) (Q:ad->ai->Prop) (E:ad->ai->Prop),s.heap.IsStrIter it ty x t i->Q (.ref it) s->aD (aE P w) A (iW (.ref it)) Q E s) :
  Turn P w K tg (Its x) [it] it (λi h=>h.IsStrIter it ty x t i) where
 mem:=by simp
 obj:=λi h st b j=>by
  have e:b=it:=by simpa using j
  subst e;obtain⟨o,g,c,d⟩:=st;exact⟨o,g,λv z=>by rw[d] at z;cases z⟩
 keep:=λi h h' st k=>by
  obtain⟨o,g,r⟩:=st;exact⟨o,k it (by simp) o g,r⟩
 item:=by
  intro X O hw U N i pins s σ H E I hf st J;subst O hw U;obtain⟨f0,f1,f2,Y,f4,f5⟩:=hf it (by simp)
  refine(W X.A (I.ok.hd N)).item i s _ E J st λv h' B Z D G=>?_;obtain⟨c,u,L,rfl⟩:=Z;have I1:Inv X pins σ H {s with heap:=h',toks:=B}:=I.turned (λb o j e=>G b o (by simpa using j) e) f0 f1 Y f4 f5
  obtain⟨o,e,cl,d⟩:=id D;exact⟨_,rfl,eQ5 e cl d hty ⟨.str ⟨#[c]⟩,H,I1,⟨u,rfl⟩,⟨rfl,c,L,rfl⟩,D,λb j=>(hf b j).1⟩⟩
 done:=by
  intro X O hw U N i pins s σ H E I hf st J;subst O hw U;obtain⟨f0,f1,f2,Y,f4,f5⟩:=hf it (by simp)
  have e:=J;subst e;exact(W X.A (I.ok.hd N)).done s _ E st λh' B G=>⟨rfl,I.turned (λb o j e=>G b o (by simpa using j) e) f0 f1 Y f4 f5⟩
 self:=λA i s Q E st h=>hs A i s Q E st h
section
variable{X:Cx}{tg:Expr}
def iStr(tl:TE):TI:=fun σ H R=>tl σ H λv H1=>∃x,v=.str x/\R (Its x) H1
theorem gZs(hl:PE X l tl):PI X tg l (iStr tl):=by
 intro pins s σ H R I h;refine thn (hl pins s σ H _ I h) λv s1 d=>?_;obtain⟨y,H1,z,B,x,e,q⟩:=d;subst e;obtain⟨t,rfl⟩:=B;refine wpAny_pyIter_strU ?_;have fp:∀b∈[s1.heap.objs.size],FpOk X pins H1 b:=λb D=>by
  have e:b=s1.heap.objs.size:=by simpa using D
  subst e;exact z.fpOk (am _) (z.hok.fresh (am _))
 refine⟨s1.heap.objs.size,[s1.heap.objs.size],(λi h=>h.IsStrIter s1.heap.objs.size (strIterType x) x t i),_,H1,rfl,z.kept λb o e=>af _ e,?_,⟨_,au _ rfl,rfl,rfl⟩,fp,q⟩;unfold strIterType
 split
 ·exact cXq x t _ _ (by decide) (λA j=>Walks.strAscii j _ x t) λA i s Q E st h=>wpAny_pyIter_striter_ascii st h
 ·exact cXq x t _ _ (by decide) (λA j=>Walks.strWide j _ x t) λA i s Q E st h=>wpAny_pyIter_striter_wide st h
end
section
variable{X:Cx}{K:Fg}{pos:Pos}
theorem fZp:ItOk K F S H (Its x) (eZ3 x) G where
 go:=λL f J H2 y j _ i d hd=>by
  unfold eZ3 at hd;rw[aY,bO] at hd;obtain⟨c,hc,rfl⟩:=hd;rw[br] at hc;have hi:i<x.cps.size:=by
   rcases bU i x.cps.size with z|z
   ·exact z
   ·rw[Array.getElem?_eq_none z] at hc;cases hc
  refine⟨hi,λz O ⟨D,N,hc',B⟩=>?_⟩;subst B;subst D;rw[hc] at hc';cases hc';exact⟨Ext.refl _ _,j,by rfl⟩
 stop:=λL f J H2 y j _=>by unfold eZ3;rw[ae];exact aT
def hQa(te:ED):ID:=fun Γ S Q=>te Γ S λd S1=>match d with
 |.str x=>Q (eZ3 x) (λ_=>True) S1
 |_=>False
theorem eXy(hl:PD K X l tl):PID K X tg l (hQa tl):=.of (gZs hl.o) fun σ H Q z=>z.el λF S Γ QD r g q c =>
 ⟨F,S,Γ,_,r,g,q,λv d H1 G B D v1 j=>by
  match d,j with
  |.str x,j=>exact⟨x,rstr v1,c _ _ _ _ _ B D fZp j⟩⟩
end
end L2
set_option maxHeartbeats 4000000
namespace L2
open PySem PySem.Spec PyProof.Rows
section
variable{X:Cx}
def cXr(w:aO)(K:Fg):List V->Hp->VK->Prop:=λxs H Q=>∃x ms,xs=[x]/\dSt w K H x ms/\ms.Nodup/\ms.length<64/\∀l ys out,H l=none->out.Perm ms->out.Pairwise (λa b=>HT.lexS a b=true)->bc (dT K dS H) ys out->Q (.ref l) (upd H l (.lst ys))
theorem bZt{K:Fg}{w:aO}(hu:X.A.units+8<bR)(hK:X.K=K:=by rfl)(hw:X.w=w:=by rfl)(hc:X.calm=true:=by rfl):CallR X (.builtin "sorted") (cXr w K):=by
 subst hw;intro pins s σ H xs us Q I r h;obtain⟨x,ms,rfl,⟨p,es,ep,t,ps,rfl,hH,hf,G,L,pp,rfl⟩,nd,O,q⟩:=h;obtain⟨u,rfl,rx⟩:=aX4 r;cases rx;obtain⟨hg,_⟩:=I.hok p _ hH;have hl:es.size=ps.length:=by have:=bW pp;simpa using this
 have hpl':ps.length<64:=by simpa using O
 have hh:=I.ok.hd hc;refine gw kind_sorted plain_sorted entry_sorted (args_sorted1 _) ?_;refine aa (ag ?_);refine aa (ST.collectT (by simp[hh]) hg hf G L (by lia) λvals h1 d B kp=>?_)
 obtain⟨ps',j,z⟩:=ST.paired_perm B pp;have hvl:=bW z;have hpl2:=j.length_eq;have U:Inv X pins σ H {s with heap:=h1,drawn:=d}:=(I.kept kp).drawn d
 refine aa (iO ?_ (by rw[aZ];lia))
 have D:(h1.push (bK "list" vals.toArray 0)).get? h1.objs.size=some (bK "list" vals.toArray 0):=au _ rfl;refine aa (bF (cU slot_list_sort ⟨_,D,rfl⟩ entry_list_sort ?body (args_list_sort _)))
 case body =>
  refine KS.sort_tups (by lia) D (gQm U hK (λb o e=>af _ e) z) ((j.map (·.2)).nodup_iff.mpr nd) (by lia) λidx h' c i1 Z Y g kk=>⟨_,rfl,ag ⟨_,rfl,?_⟩⟩
  have N:∀i∈idx,i<vals.length:=λi hi=>aU.mp (i1.mem_iff.mp hi);have zv:=KS.paired_idx z bJ (V.non,[]) idx N;obtain⟨z1,z2⟩:=bXt zv;have eo:(idx.map λi=>(ps'.map (·.2)).getD i [])=(idx.map λi=>ps'.getD i (V.non,[])).map (·.2):=by
   rw[bi];exact gy λi _=>cXd ps' i
  rw[eo] at Z Y;have J:=U.hok.fresh (am _);have sm:Same H (upd H h1.objs.size (.lst ((idx.map λi=>ps'.getD i (V.non,[])).map (·.1)))):=aQx J;have il:idx.length=vals.length:=by have:=i1.length_eq;simpa using this
  have I2:Inv X pins σ (upd H h1.objs.size (.lst ((idx.map λi=>ps'.getD i (V.non,[])).map (·.1)))) {s with heap:=h',drawn:=d}:=U.laid (λb o e=>kk b o (aN (aC e)) (af _ e)) (am _)
   ⟨by simp only[ae];rw[aZ];lia,_,c,z1,g⟩
  exact⟨.ref h1.objs.size,_,I2,rfl,q _ _ _ J (Y.trans (j.map (·.2))) Z z2⟩
end
section
variable{X:Cx}{K:Fg}{pos:Pos}{k:Nat}{F:Am}{S:Sto}{H:Hp}
theorem Rp.ntup(r:Rp K F S H){a:Addr}{xs:List V}(h:Rd H a (.tup xs)):¬ mt S F a:=λz=>by
 have no:∀u,H a=some u->(∀ys,u≠.tup ys)->(∀o ys,u≠.frz o (.tup ys))->False:=λu e D B=>by
  rcases h with h|⟨o,h⟩
  ·rw[e] at h;exact D _ (aQ h)
  ·rw[e] at h;exact B _ _ (aQ h)
 rcases z with z|z
 ·cases e:S a with
  |none=>exact z e
  |some o =>
   have q:=r.obj a o e;cases o with
   |lst ds=>obtain⟨us,hu,_⟩:=q;exact no _ hu (λ_ z=>by cases z) λ_ _ z=>by cases z
   |dk d=>obtain⟨us,hu,_⟩:=q;exact no _ hu (λ_ z=>by cases z) λ_ _ z=>by cases z
   |dt d=>obtain⟨us,hu,_⟩:=q;exact no _ hu (λ_ z=>by cases z) λ_ _ z=>by cases z
   |tb ps G=>obtain⟨us,hu,_⟩:=q;exact no _ hu (λ_ z=>by cases z) λ_ _ z=>by cases z
   |ex f J hl=>obtain⟨us,hu,j⟩:=hl _ _ _ q;exact no _ hu (λ_ z=>by subst z;exact j) λ_ _ z=>by subst z;exact j
 ·obtain⟨⟨zs,e,ct⟩,_⟩:=r.frm a z;exact no _ e (λ_ z=>by subst z;exact ct) λ_ _ z=>by subst z;exact ct
theorem cXs(r:Rp K F S H):∀{xs:List V}{ts:List (List Str)},bc (dT K dS H) xs ts->RepL K (mt S F) H (ts.map tupS) xs
 |_,_,.nil=>RepL.nil
 |_,_,.cons ⟨a,us,e,sq,p⟩ q=>by
  refine RepL.cons ?_ (cXs r q);subst e;refine⟨a,us,rfl,?_,dZx p⟩;rcases sq with h|h
  ·exact .inl ⟨r.ntup h,h⟩
  ·exact .inr (.inr h)
end
end L2
set_option maxHeartbeats 1000000
namespace L2
open PySem PySem.Spec PyProof.Rows
section
variable{X:Cx}
def dSs(w:aO):Dn (List Str):=λH v ms=>∃p es ep t,v=.ref p/\H p=some (stO p es ep t)/\t.fits es.size=true/\t.led=ST.ledOf w/\(t.plain=true->es.size<=1)/\ku (es.toList.map (·.2)) ms
theorem bX9{P:aA}{w:aO}{h:bd}:∀{es:List (Int×ad)}{ms:List Str},bc (λ(e:Int×ad) k=>(ST.strKd P w).is h k e.2) es ms->ku (es.map (·.2)) ms
 |_,_,.nil=>.nil
 |(a,v)::es,m::ms,.cons p q=>by
  have d:∃t,v=.str m t:=by
   have p:(eG P w).is m v=true:=p;simp only[eG] at p;cases v <;> simp[gC] at p;subst p;exact⟨_,rfl⟩
  obtain⟨t,rfl⟩:=d;exact .cons m t (bX9 q)
def fZq(w:aO)(K:Fg):List V->Hp->VK->Prop:=λxs H Q=>∃x ds,xs=[x]/\dL K dS H x ds/\ds.length+1<=300/\∀p ms H',Same H H'->ms.Nodup->(∀k,k∈ms↔k∈ds)->dSs w H' (.ref p) ms->Q (.ref p) H'
theorem cZf{K:Fg}{w:aO}(hu:X.A.units+8<bR)(hK:X.K=K:=by rfl)(hw:X.w=w:=by rfl)(hc:X.calm=true:=by rfl):CallR X (.type "set") (fZq w K):=by
 subst hK hw;intro pins s σ H xs us Q I r h;obtain⟨x,ds,rfl,⟨a,ys,rfl,U,p⟩,Y,q⟩:=h;obtain⟨u,rfl,rx⟩:=aX4 r;cases rx;obtain⟨O,G,pl,_⟩:=I.list U;refine ST.call_setK (ST.strKd X.prog X.w) (I.ok.hd hc) hu pl.isList (dZd p G) (by rw[aq,<- G.length,p.length];exact Y) λh' L ms M _ Z=>?_
 obtain⟨es,D,t,j,d,J⟩:=M.ex;have B:=I.hok.fresh (am _);have N:Same H (upd H s.heap.objs.size (stO s.heap.objs.size es D t)):=aQx B;refine⟨.ref s.heap.objs.size,_,I.laid (λb o e=>Z b o (aC e) e) (am _) ?_,rfl,q _ _ _ N M.nd M.mem ⟨_,es,D,t,rfl,aQ9,(ST.strKd X.prog X.w).fits j,d,λz=>(ST.strKd X.prog X.w).few rfl j J M.nd z,bX9 J⟩⟩;exact⟨(ST.strKd X.prog X.w).obj j,⟨_,(ST.strKd X.prog X.w).obj j⟩,λg1 g2 g k=>k _ g⟩
theorem cQc(p:l'.Perm l):∀{m:List Str},ku l m->∃m',m'.Perm m/\ku l' m':=by
 induction p with
 |nil=>intro m h;exact⟨m,.refl _,h⟩
 |cons x p L =>
  intro m h;cases h with
  |cons y t r =>
   obtain⟨m',G,h'⟩:=L r;exact⟨_::m',G.cons _,.cons _ _ h'⟩
 |swap x y l =>
  intro m h;cases h with
  |cons y t r =>
   cases r with
   |cons z u r=>exact⟨_,.swap _ _ _,.cons _ _ (.cons _ _ r)⟩
 |trans p q j d =>
  intro m h;obtain⟨N,D,h1⟩:=d h;obtain⟨J,B,h2⟩:=j h1;exact⟨J,B.trans D,h2⟩
def fZr(w:aO):List V->Hp->VK->Prop:=λxs H Q=>∃x ms,xs=[x]/\dSs w H x ms/\ms.Nodup/\ms.length<64/\∀(l:Addr) (out:List Str),H l=none->out.Perm ms->out.Pairwise (λa b=>HT.ltS a b=true)->Q (.ref l) (upd H l (.lst (out.map V.str)))
theorem bJ1(hw:X.w=w:=by rfl)(hc:X.calm=true:=by rfl):CallR X (.builtin "sorted") (fZr w):=by
 subst hw;intro pins s σ H xs us Q I r h;obtain⟨x,ms,rfl,⟨p,es,ep,t,rfl,hH,hf,J,N,pp⟩,nd,h64,q⟩:=h;obtain⟨u,rfl,rx⟩:=aX4 r;cases rx;obtain⟨hg,_⟩:=I.hok p _ hH;have hl:es.size=ms.length:=by have:=pp.length;simpa using this
 have hh:=I.ok.hd hc;refine gw kind_sorted plain_sorted entry_sorted (args_sorted1 _) ?_;refine aa (ag ?_);refine aa (ST.collectT (by simp[hh]) hg hf J N (by lia) λvals h1 d G kp=>?_)
 obtain⟨ms',j,z⟩:=cQc G pp;have hvl:=z.length;have hml:=j.length_eq;have Z:Inv X pins σ H {s with heap:=h1,drawn:=d}:=(I.kept kp).drawn d
 refine aa (iO ?_ (by rw[aZ];lia))
 have B:(h1.push (bK "list" vals.toArray 0)).get? h1.objs.size=some (bK "list" vals.toArray 0):=au _ rfl;refine aa (bF (cU slot_list_sort ⟨_,B,rfl⟩ entry_list_sort (list_sort_treeK strKind_oneLt B z.keysOf (λY U rest e=>keyKind_strs (by rw[<- e];exact z)) (by lia) λD a1 a2=>⟨_,rfl,?_⟩) (args_list_sort _)))
 refine ag ⟨_,rfl,?_⟩;obtain⟨out,o1,L,o3⟩:=sorted_out_str z a1 a2;obtain⟨v1,_⟩:=bXu (H:=H) o1;have O:=Z.hok.fresh (am _);obtain⟨e,he⟩:=sortedHeap_at B;have hol:=L.length_eq;have I2:Inv X pins σ (upd H h1.objs.size (.lst (out.map V.str))) {s with heap:=jz (h1.push (bK "list" vals.toArray 0)) h1.objs.size vals ((bh D).map (·.2)),drawn:=d}:=Z.laid (λb o g=>(sortedHeap_old (aN (aC g)) (eA (aC g) (aC B))).trans (af _ g)) (am _)
  ⟨by rw[ae,aZ];lia,((bh D).map (·.2)).toList,e,v1,by rw[Array.toArray_toList];exact he⟩
 exact⟨.ref h1.objs.size,_,I2,rfl,q _ _ O (L.trans j) (eXm o3 ((L.trans j).nodup_iff.mpr nd))⟩
end
section
variable{X:Cx}{K:Fg}{pos:Pos}{k:Nat}
theorem gZt:∀ss:List Str,RepL K M H (ss.map D.str) (ss.map V.str)
 |[]=>RepL.nil
 |s::ss=>RepL.cons (by rfl) (gZt ss)
def eZd(b:Bool)(te:ED):ED:=fun Γ S Q=>te Γ S λd S1=>∃ss:List Str,lsIs S1 d (ss.map D.str)/\ss.length<300/\(∀out:List Str,out.Nodup->(∀t,t∈out↔t∈ss)->out.length<64)/\∀out:List Str,out.Nodup->(∀t,t∈out↔t∈ss)->out.Pairwise (λa b=>HT.ltS a b=true)->newL b (out.map D.str) S1 Q
theorem cQd{b:Bool}{e:Expr}{te:ED}{p p' pos':Pos}(hr:Room k X.A)(hg:Gl X "sorted")(hm:X.mg "sorted"=none)(hg':Gl X "set")(hm':X.mg "set"=none)(he:PD K X e te)(hK:X.K=K:=by rfl)(hc:X.calm=true:=by rfl)
  (h1:az [e] X.env=(false,eval e X.env)::az [] X.env:=by rfl) (h2:az [Expr.Call (.Name "set" p') [e] [] pos'] X.env=(false,eval (Expr.Call (.Name "set" p') [e] [] pos') X.env)::az [] X.env:=by rfl) (h3:(cC pos (az [] X.env)).any (·.1)=false:=by rfl) (h4:(cC pos' (az [] X.env)).any (·.1)=false:=by rfl) :
  PD K X (.Call (.Name "sorted" p) [.Call (.Name "set" p') [e] [] pos'] [] pos) (eZd b te) :=
 .of (bQ8 (bJ1 rfl hc) hg hm aJ5 (aJj (bQh (cZf (lt64 hr) hK rfl hc) hg' hm' eXe (aJj he.o bX0 h1) (by decide) (by decide) h1 h4) bX0 h2) (by decide) (by decide) h2 h3) fun σ H Q J=>J.el λF S Γ QD r g q c =>
 ⟨F,S,Γ,_,r,g,q,λv d H1 B N D v1 ⟨ss,hl,G,z,U⟩=>by
  obtain⟨a,us,rfl,sq,Z⟩:=lsIs.sl D v1 hl;refine⟨_,ss,rfl,⟨a,us,rfl,sq,bZ0 Z⟩,by lia,λp ms H2 s2 nd mem st=>⟨_,ms,rfl,st,nd,z ms nd mem,λl out j pm Y=>?_⟩⟩
  have O:=D.same s2;have L:Ext B H1 B H2:=Ext.same s2;exact Cn.new (Cn.shift c (N.trans L)) O j (gZt out) (U out (pm.nodup_iff.mpr nd) (λt=>(pm.mem_iff).trans (mem t)) Y)⟩
end
end L2
set_option maxHeartbeats 4000000
namespace L2
open PySem PySem.Spec PyProof.Rows
theorem dXt(a b:Addr)(xs ys:Array ad)(m n:Nat)(dc:Option Addr)(sl:Array (Option ad))(h0:¬ (!xs.isEmpty&&d0 (xs.size+ys.size))=true)(h1:xs.size<=sizeLine)(h2:xs.size+ys.size<=sizeLine+1) :
  Meets (cX.«list.extend» ⟨[.ref a,.ref b],[]⟩) (λ_ R s=>s.heap.get? a=some { cls:=.type "list",dict:=none,data:=.seq xs m,slots:=#[] }/\s.heap.get? b=some { cls:=.type "tuple",dict:=dc,data:=.seq ys n,slots:=sl } /\
   R (.ok (.ret bJ)) {s with heap:=s.heap.update a (bw λz=>z++ys),toks:=s.toks}) :=
 .of_wp λprog w A R s hyp=>by
  obtain⟨O,gl,U,j,B⟩:=s;obtain⟨ga,d,fin⟩:=hyp;have N:=AutoSeq1.idx_int;have L:=gG;have J:=kB;have G:=AutoSeq1.sub_tuple_list;have D:=AutoSeq1.sub_list_tuple;have size:(xs++ys).size<=sizeLine+1:=by rw[ij];exact h2
  wp_walk using (eT ga rfl),jV ga,jV d
  exact⟨_,rfl,fin⟩
section
variable{X:Cx}{K:Fg}{pos:Pos}
def gZu(K:Fg):V->List V->Hp->VK->Prop:=λx vs H Q=>∃l b xs zs,x=.ref l/\vs=[.ref b]/\H l=some (.lst xs)/\SqT K H b zs/\xs.length+zs.length<=sizeLine/\Q .non (upd H l (.lst (xs++zs)))
theorem fZs(hK:X.K=K:=by rfl):MtR X "list.extend" (gZu K):=by
 subst hK;intro pins s σ H x vs v us Q I rx Z h;obtain⟨l,b,xs,zs,rfl,rfl,U,hB,hz,q⟩:=h;cases rx;obtain⟨u,rfl,ru⟩:=Z.one;cases ru;obtain⟨z,d,n,r,hl,e⟩:=I.lstM U;obtain⟨j,L,Y,_⟩:=I.tuple hB;obtain⟨⟨N,G,J,D⟩,g,O,n2,hd⟩:=id Y;simp only at O hd;subst O hd;have l1:=r.length;have l2:=L.length;have fits:d.toArray.size+j.toArray.size<=sizeLine:=by rw[aq,aq];lia
 have B:¬ (!d.toArray.isEmpty&&d0 (d.toArray.size+j.toArray.size))=true:=by
  rw[cZw fits,kO];exact cD
 refine jr F.slot_list_extend ⟨_,e,rfl⟩ F.entry_list_extend (F.args_list_extend_2 _ _) (dXt l b d.toArray j.toArray n n2 _ _ B (by rw[aq];lia) (by lia)) ⟨e,g,?_⟩
 refine⟨.non,_,I.lset U e (by simp) (r.append L) ?_,rfl,q⟩
 rw[ax];lia
def gZv:D->List D->Sto->DK->Prop:=λo ds S Q=>match o,ds with
 |.ref a,[.tup ys]=>∃xs,S a=some (.lst xs)/\xs.length+ys.length<=sizeLine/\Q .non (supd S a (.lst (xs++ys)))
 |_,_=>False
theorem fZt:MtD K "list" (gZu K) gZv ckL:=⟨λF S H d x r h c=>ty_L r h c,λF S H d ds x vs Q QD r h l q c=>by
 match d,ds,q with
 |.ref a,[.tup ys],⟨xs,B,D,q⟩ =>
  obtain⟨v,rfl,j⟩:=l.one;obtain⟨us,hu,z⟩:=r.obj a _ B;rw[rref h];obtain⟨b,ws,rfl,t,lw⟩:=j;exact⟨a,b,us,ws,rfl,rfl,hu,t.sq,by rw[z.length,lw.length];exact D,c.write r (us:=us) B (z.app lw) (by rfl) q⟩⟩
theorem dXu{o e:Expr}{to:ED}{t:AD}{apos cpos:Pos}(ho:PD K X o to)(ha:PAD K X [e] t)(hK:X.K=K:=by rfl)
  (hbase:gE o "extend" X.env (eval o X.env)=eval o X.env:=by rfl)
  (hfew:((cC cpos (az [e] X.env)).all (λx=>!x.1) && (jq cpos (gi [] X.env)).all (λx=>x.1.isSome)
   && decide (([e]:List Expr).length+([]:List hX).length+(if ([]:List hX).isEmpty then 0 else 1)<30))=true:=by rfl)
  (hline:(apos.endLine==cpos.line)=true:=by rfl) (hs:az [e] X.env=(false,eval e X.env)::az [] X.env:=by rfl) (hplain:(cC cpos (az [] X.env)).any (·.1)=false:=by rfl) :
  PD K X (.Call (.Attribute o "extend" apos) [e] [] cpos) (dMt gZv ckL to t):=e_bm fZt fE jT jU (fZs hK) ho ha hK hbase hfew hline hs hplain
end
end L2
set_option maxHeartbeats 1000000
namespace L2
open PySem PySem.Spec PyProof.Rows
section
variable{X:Cx}{K:Fg}{pos:Pos}
theorem gZw:cG "abs"=some (.builtin "abs"):=by decide +kernel
def absD:RCD:=λds S Q=>match ds with
 |[.int i]=>Q (.int (if i<0 then -i else i)) S
 |_=>False
theorem fZu{e:Expr}{t:AD}{p:Pos}(hg:Gl X "abs")(hm:X.mg "abs"=none)(ha:PAD K X [e] t)(he:az [e] X.env=(false,eval e X.env)::az [] X.env:=by rfl)(hpl:(cC pos (az [] X.env)).any (·.1)=false:=by rfl):PD K X (.Call (.Name "abs" p) [e] [] pos) (dCB absD t):=aXz eQ9 (by
 intro F S H ds vs Q QD r l h c
 match ds,h with
 |[.int i],q =>
  obtain⟨v,rfl,d⟩:=l.one;rw[rint d];exact⟨i,rfl,c _ _ _ S (Ext.refl _ _) r (by rfl) q⟩) hg hm gZw ha (by decide) (by decide) he hpl
end
def emitOfS(elt:Expr)(acc:ad)(env:Env):Sem Unit:=eval elt env>>=λx=>gn elt.pos>>=λ_=>call (.builtin "set.add") [acc,x]>>=λ_=>pure ()
theorem dXv(elt target iter:Expr)(ifs:List Expr)(scope:Scope)(pos:Pos)(it acc:ad)(env:Env) :
  ff (.SetComp elt [⟨target,iter,ifs,0⟩] scope pos) 0 it acc env=aZ0 target ifs iter.pos (emitOfS elt acc env) (.compLoop (.SetComp elt [⟨target,iter,ifs,0⟩] scope pos) 0 it acc env) it env:=by
 refine bind_congr λ_=>bind_congr λr=>?_;cases r with
 |none=>rfl
 |some v =>
  refine bind_congr λ_=>bind_congr λ_=>bind_congr λok=>?_;cases ok <;> rfl
def TKp(H H':Hp):Prop:=∀a xs,Rd H a (.tup xs)->Rd H' a (.tup xs)
abbrev PVk{κ:Type}(rp:Hp->V->κ->Prop)(H:Hp):ad->V×κ->Prop:=λv p=>RelV p.1 v/\rp H p.1 p.2
structure SKn(P:aA)(w:aO)(K:Fg)(κ:Type) where
 kd:Hp->ST.SetKd P w κ
 rp:Hp->V->κ->Prop
 pI:Array (Int×ad)->aR->List κ->Prop
 toI:∀{X:Cx}{pins σ H s p es ep t} {ps:List (V×κ)},X.prog=P->X.w=w->X.K=K->Inv X pins σ H s->s.heap.get? p=some (ST.setOb es ep t)->pI es t (ps.map (·.2))->bc (PVk rp H) (es.toList.map (·.2)) ps ->
  (kd H).I s.heap p es ep t/\bc (λ(e:Int×ad) k=>(kd H).is s.heap k e.2) es.toList (ps.map (·.2))
 toIs:∀{X:Cx}{pins σ H s} {x:V}{v:ad}{k:κ},X.prog=P->X.w=w->X.K=K->Inv X pins σ H s->RelV x v->rp H x k->(kd H).is s.heap k v
 ofI:∀{H:Hp}{h:bd}{p es ep t} {ks:List κ},(kd H).I h p es ep t->ks.Nodup->bc (λ(e:Int×ad) k=>(kd H).is h k e.2) es.toList ks->∃ps:List (V×κ),bc (PVk rp H) (es.toList.map (·.2)) ps/\ps.map (·.2)=ks/\pI es t ks
 fr:∀led,pI #[] (.fresh 0 0 led) []
 mo:∀{H H':Hp}{v:V}{k:κ},TKp H H'->rp H v k->rp H' v k
def StV{P:aA}{w:aO}{K:Fg}{κ:Type}(kn:SKn P w K κ)(H:Hp)(p:Addr)(acc:List κ):Prop:=∃es ep t,∃ps:List (V×κ),H p=some (stO p es ep t)/\t.led=ST.ledOf w/\kn.pI es t (ps.map (·.2))/\bc (PVk kn.rp H) (es.toList.map (·.2)) ps/\(ps.map (·.2)).Nodup/\∀k,k∈ps.map (·.2)↔k∈acc
theorem StV.keep{K:Fg}{kn:SKn P w K κ}{acc:List κ}(h:StV kn H p acc)(e:H' p=H p)(t:TKp H H'):StV kn H' p acc:=by
 obtain⟨es,G,tb,ps,h1,h2,D,B,j,d⟩:=h;exact⟨es,G,tb,ps,e.trans h1,h2,D,Paired.imp (λ_ _ z=>⟨z.1,kn.mo t z.2⟩) B,j,d⟩
theorem StV.at{K:Fg}{kn:SKn P w K κ}{acc:List κ}(h:StV kn H p acc):∃φ,H p=some (.ext φ):=by
 obtain⟨es,d,tb,ps,h1,_⟩:=h;exact⟨_,h1⟩
theorem fZv(h:H p=some (.ext φ)):TKp H (upd H p o):=λa xs r=>by
 have:a≠p:=by
  rintro rfl;rcases r with r|⟨o,r⟩ <;> rw[h] at r <;> cases r
 rcases r with r|⟨o',r⟩
 ·exact .inl (by rw[upd_ne this];exact r)
 ·exact .inr ⟨o',by rw[upd_ne this];exact r⟩
section
variable{X:Cx}{K:Fg}{κ:Type}[DecidableEq κ]
def dXw{P:aA}{w:aO}(kn:SKn P w K κ)(p:Addr)(te:TE):TB:=fun σ H N=>te σ H λy H4=>∃acc k,StV kn H4 p acc/\kn.rp H4 y k/\acc.length+1<=300/\∀φ,StV kn (upd H4 p (.ext φ)) p (acc++[k])->N (upd H4 p (.ext φ))
theorem eZe{P:aA}{w:aO}{kn:SKn P w K κ}{elt:Expr}{te:TE}{p:Addr}(hxe:X.xe=λ_ _=>False)(hu:X.A.units+1<bR)(hP:X.prog=P)(hw:X.w=w)(hK:X.K=K)(he:PE X elt te):PB X (emitOfS elt (.ref p) X.env) (dXw kn p te):=by
 intro pins s σ H N I h;have h1:=he pins s σ H _ I h;rw[hxe] at h1;refine aa (thn h1 λy s1 ⟨v,H1,I1,r1,acc,k,st,rk,hn,n⟩=>aa (fW (aa ?_)));obtain⟨es,ep,t,ps,hp,Y,hpi,hpp,hnd,U⟩:=id st;subst hP hw;obtain⟨ho,_⟩:=I1.hok p _ hp;obtain⟨i1,i2⟩:=kn.toI rfl rfl hK I1 ho hpi hpp;have isk:=kn.toIs rfl rfl hK I1 r1 rk;have M:ST.Mem (kn.kd H1) s1.heap p acc (ST.ledOf X.w) (ps.map (·.2)):=⟨⟨es,ep,t,i1,Y,i2⟩,hnd,U⟩;refine cU F.slot_set_add ⟨_,ho,rfl⟩ F.entry_set_add ?_ (F.args_set_add_2 _ _);unfold cX.«set.add» cX.Frozenset.oneOther;simp only[j5,bind_assoc];refine aa (ag ?_)
 try dsimp only
 refine aa (ag ?_)
 try dsimp only
 refine aa ?_;refine ST.addM (kn.kd H1) (by lia) M isk hn λh' tk ks' Z sb kp tk'=>?_
 refine ag ⟨_,rfl,ag ?_⟩;obtain⟨D,G,t',J,j,i2'⟩:=Z.ex;obtain⟨ps',L,B,O⟩:=kn.ofI J Z.nd i2';have d:=(kn.kd H1).obj J;have I2:Inv X pins σ (upd H1 p (stO p D G t')) {s1 with heap:=h',toks:=tk}:=I1.write (by rw[hp];exact trivial) (.inl rfl) (λb u hb hu=>(sb.2 b hb).trans hu) ⟨_,d⟩ ⟨d,⟨_,d⟩,λg1 g2 g k=>k _ g⟩
 have tk1:TKp H1 (upd H1 p (stO p D G t')):=fZv hp;refine⟨σ,_,I2,Wk.refl σ,n _ ⟨D,G,t',ps',aQ9,j,by rw[B];exact O,Paired.imp (λ_ _ z=>⟨z.1,kn.mo tk1 z.2⟩) L,by rw[B];exact Z.nd,by rw[B];exact Z.mem⟩⟩
end
end L2
namespace ST
open PySem PySem.SetTable PySem.Spec PyProof.Rows
end ST
namespace L2
open PySem PySem.Spec PyProof.Rows
theorem gZx{K:Fg}(t:TKp H H')(h:dT K dS H v k):dT K dS H' v k:=by
 obtain⟨a,xs,e,sq,p⟩:=h;refine⟨a,xs,e,?_,p⟩;rcases sq with sq|sq
 ·exact .inl (t a xs sq)
 ·exact .inr sq
def dQ2(P:aA)(w:aO)(K:Fg):SKn P w K (List Str) where
 kd:=λH=>ST.restr (ST.tupKd P w) λk v=>∃x,RelV x v/\dT K dS H x k
 rp:=λH v k=>dT K dS H v k
 pI:=λes t ks=>ST.SetI es t/\bc (λ(e:Int×ad) k=>e.1=ST.hashT P w k) es.toList ks/\(t.plain=true->∀k∈ks,k=[])
 toI:=λ{X pins σ H s p es ep t ps} e1 e2 e3 I ho hpi hp=>by
  subst e1 e2 e3;obtain⟨h1,h2,h3⟩:=hpi;have is:bc (λ(e:Int×ad) k=>(ST.TK X.prog X.w s.heap k e.2/\∃x,RelV x e.2/\dT X.K dS H x k)/\e.1=ST.hashT X.prog X.w k) es.toList (ps.map (·.2)):=by
   clear h3 h1 ho;generalize es.toList=l at hp h2
   induction l generalizing ps with
   |nil=>cases hp;exact .nil
   |cons e l ih =>
    cases hp with
    |cons q1 q2 =>
     cases h2 with
     |cons z1 z2 =>
      refine .cons ⟨⟨?_,_,q1.1,q1.2⟩,z1⟩ (ih q2 z2);obtain⟨r,b,ys,e3,hq,pp⟩:=q1;rw[e3] at r;have r:e.2=.ref b:=r;obtain⟨its,ri,tp,_⟩:=I.tuple hq;rw[r];exact fQc (K:=X.K) pp ri tp
  refine⟨⟨⟨⟨ho,h1⟩,λe he=>?_,λhpl e he=>?_⟩,λe he=>?_⟩,Paired.imp (λ_ _ z=>z.1) is⟩
  ·obtain⟨k,_,q⟩:=ST.paired_mem is e he;exact⟨k,q.1.1,q.2⟩
  ·obtain⟨k,hk,q⟩:=ST.paired_mem is e he;rw[h3 hpl k hk] at q;exact q.1.1
  ·obtain⟨k,_,q⟩:=ST.paired_mem is e he;exact⟨k,q.1⟩
 toIs:=λ{X pins σ H s x v k} e1 e2 e3 I r d=>by
  subst e1 e2 e3;refine⟨?_,x,r,d⟩;obtain⟨b,ys,e3,hq,pp⟩:=d;rw[e3] at r;have r:v=.ref b:=r;obtain⟨its,ri,tp,_⟩:=I.tuple hq;rw[r];exact fQc (K:=X.K) pp ri tp
 ofI:=λ{H h p es ep t ks} hI nd hp=>by
  obtain⟨ps,a,b⟩:=gQl (K:=K) (H:=H) hp;refine⟨ps,a,b.symm,hI.1.1.inv,?_,λhpl k hk=>?_⟩
  ·have hel:=hI.1.2.1;clear a b nd hI;generalize es.toList=l at hp hel
   induction l generalizing ks with
   |nil=>cases hp;exact .nil
   |cons e l ih =>
    cases hp with
    |cons q1 q2 =>
     refine .cons ?_ (ih q2 λe he=>hel e (ak _ he));obtain⟨k,z1,z2⟩:=hel e aj;rw[z2,z1.inj q1.1]
  ·obtain⟨e,he,q⟩:=ST.paired_mem' hp k hk;exact q.1.inj (hI.1.2.2 hpl e he)
 fr:=λled=>⟨ST.fresh_ok _ _ _,.nil,λ_ k hk=>by cases hk⟩
 mo:=λt h=>gZx t h
theorem bJ2
  (h0:fv (aE prog w) A (.compLoop (.SetComp elt (⟨target,iter,ifs,0⟩::rest) scope pos) 0 it acc env) R s)
  (h:aD (aE prog w) A (iW it) (λit' s'=>fv (aE prog w) A (.compLoop (.SetComp elt (⟨target,iter,ifs,0⟩::rest) scope pos) 0 it' acc env) R s')
   (notedBy (aE prog w) A env λx s'=>R (.error x) s') s) :
  fv (aE prog w) A (.compStart (.SetComp elt (⟨target,iter,ifs,0⟩::rest) scope pos) 0 it acc env) R s:=by
 refine gN ?_;refine wpAny_notedAt ?_;refine aa (dD (wpAny_ite ?_))
 split
 ·first
   |exact aa (ag (ag (j0 rfl h0)))
   |exact ag (j0 rfl h0)
 ·refine aa (en ?_);exact aa (fW (aa (cO h (λit' s' h'=>ag (j0 rfl h')) λ_ _ x=>x)))
section
variable{X:Cx}{K:Fg}{κ:Type}{pins:List (Addr×Obj)}{σ:St}{H:Hp}{s:ai}
def bJ3{P:aA}{w:aO}(kn:SKn P w K κ)(is:List (Option Nat))(wi:TI)(g:TG)(tt:TT)(tb:Addr->TB):TE:=fun σ H Q=>wi σ H λJ H1=>∀p,H1 p=none->∀φ,StV kn (upd H1 p (.ext φ)) p []->cQt J (capt is σ) g tt (tb p) (Q (.ref p)) (upd H1 p (.ext φ))
theorem comp_genS{kn:SKn P w K κ}(hw:X.w=w){elt target iter:Expr}{ifs:List Expr}{gs:List fq}{scope:Scope}{pos:Pos}{N':List Str}{is:List (Option Nat)}{wi:TI}{g:TG}{tt:TT}{tb:Addr->TB}{oc:Option Str}{m:ad->Env->Sem Unit}(hcalm:X.calm=true)(hN:X.N.Nodup)
  (hturn:∀it acc env,ff (.SetComp elt (⟨target,iter,ifs,0⟩::gs) scope pos) 0 it acc env=aZ0 target ifs iter.pos (m acc env) (.compLoop (.SetComp elt (⟨target,iter,ifs,0⟩::gs) scope pos) 0 it acc env) it env)
  (cp:Cap X.N scope N' is) (hi:PI X target iter wi)
  (hg:∀cl C fp s H,PG (aQe X N' scope cl C fp s H oc) target g) (ht:∀cl C fp s H,PTs (aQe X N' scope cl C fp s H oc) ifs tt) (hb:∀cl C fp s H D,PB (aQe X N' scope cl C fp s H oc) (m (.ref D) (iP scope cl C X.env)) (tb D))
  (hcf:∀n acc,eS n scope.names acc=ocl oc n acc) (hpc:∀h,gY h scope.names=ohp oc h)
  (hkind:scope.kind=.function) (hcell:∀y∈scope.names,y.2=.cell->oc=some y.1)
  (hu:∀y∈scope.names,scope.names.lookup y.1=some y.2) (hoc:∀x,oc=some x->scope.names.lookup x=some .cell)
  (hVb:okV scope.names X.env.scope.names=true)
  (hs:∀x,cy iter X.env x=pure x)
  {use:Option (ad->Sem Unit)}{Q:VK}{Qv:ad->ai->Prop}(I:Inv X pins σ H s) (h:bJ3 kn is wi g tt tb σ H Q)
  (fin:∀D C H5 s6,Inv X pins σ H5 s6->(∃m,s6.heap.Ns C m)->FrC X pins C H5->Q (.ref D) H5->compPost (aE X.prog X.w) X.A X.xe use Qv (.ref D) C (.ok .next) s6) :
  aD (aE X.prog X.w) X.A (comprehension (.SetComp elt (⟨target,iter,ifs,0⟩::gs) scope pos) scope X.env (firstIterPos (⟨target,iter,ifs,0⟩::gs) pos) (newSet (.type "set")) (firstAsync (⟨target,iter,ifs,0⟩::gs)) (firstIter (⟨target,iter,ifs,0⟩::gs) X.env) use) Qv X.xe s:=by
 have hV:=eXd hVb;have hV':=λx j=>hV (x,.free) j rfl;have hu':=λx j=>hu (x,.free) j;have B:∀x∈scope.names,x.2=.local->scope.names.lookup x.1=some .local:=λx j hl=>by rw[hu x j,hl]
 obtain⟨cl,L,c1,c2,c3⟩:=aXr λx j=>I.ok.has x (by
  obtain⟨v,n⟩:=hV' x j;rcases v with v|v|v
  ·exact absurd v n
  ·exact .inl v
  ·exact .inr v)
 have hun:∀x,oc=some x->cl.lookup x=none:=λx j=>by
  cases e:cl.lookup x with
  |none=>rfl
  |some c =>
   have:=hu' x (c3 x c e)
   rw[hoc x j] at this;cases this
 refine wpAny_comprehension_free rfl hs L hkind B (thn (hi pins s σ H _ I h) λv s1 h1=>thn h1 λitv s2 h2=>?_);obtain⟨it,fp,tn,J,H2,rfl,I2,T,st2,f2,q2⟩:=h2;refine aa (aa (dD (ag ?_)));refine bC ?_;have hD:=I2.hok.fresh (am _);have fpl:∀b∈fp,b<s2.heap.objs.size:=λb hb=>by obtain⟨o,e,_⟩:=T.obj _ _ st2 b hb;exact aC e
 have led:(!(X.w.params.followText "set-order"))=ST.ledOf X.w:=rfl;have O:Inv X pins σ (upd H2 s2.heap.objs.size (stO s2.heap.objs.size #[] 0 (.fresh 0 0 (ST.ledOf X.w)))) {s2 with heap:=s2.heap.push (ST.setOb #[] 0 (.fresh 0 0 (ST.ledOf X.w)))} :=
  I2.laid (λb u e=>af _ e) (am _) ⟨au _ rfl,⟨_,au _ rfl⟩,λg1 g2 g k=>k _ g⟩
 have st3:tn 0 (s2.heap.push (ST.setOb #[] 0 (.fresh 0 0 (ST.ledOf X.w)))):=T.keep _ _ _ st2 λb hb o e=>af _ e;have U:∀b∈fp,FpOk X pins (upd H2 s2.heap.objs.size (stO s2.heap.objs.size #[] 0 (.fresh 0 0 (ST.ledOf X.w)))) b:=λb hb=>⟨by rw[upd_ne (aN (fpl b hb))];exact(f2 b hb).1,(f2 b hb).2⟩
 have G:∀b∈fp,b<(s2.heap.push (ST.setOb #[] 0 (.fresh 0 0 (ST.ledOf X.w)))).objs.size:=λb hb=>by rw[cz];exact cK (fpl b hb)
 have q3:=q2 _ hD _ (⟨#[],0,_,[],aQ9,by rw[<- hw];rfl,kn.fr _,.nil,dM,λ_=>Iff.rfl⟩)
 show aD (aE X.prog X.w) X.A _ _ X.xe {s2 with heap:=s2.heap.push (ST.setOb #[] 0 (.fresh 0 0 (ST.ledOf X.w)))}
 change cQt _ _ _ _ _ _ (upd H2 s2.heap.objs.size (stO s2.heap.objs.size #[] 0 (.fresh 0 0 (ST.ledOf X.w)))) at q3;generalize hob:ST.setOb #[] 0 (.fresh 0 0 (ST.ledOf X.w))=ob at *
 generalize hso:stO s2.heap.objs.size #[] 0 (.fresh 0 0 (ST.ledOf X.w))=so at *
 generalize hDe:s2.heap.objs.size=D at *
 generalize hs3:({s2 with heap:=s2.heap.push ob})=s3 at *
 have hsh:s3.heap=s2.heap.push ob:=by rw[<- hs3]
 rw[<- hsh] at st3 G;have ok:=bX1 (N':=N') O U G hkind c1 c2 hcell hun;have I4:=bQq O ok hN c1 c2 hu' cp hV' hun;refine dQy ?_;rw[hcf,hpc];have kp:∀b o,s3.heap.get? b=some o->(ohp oc (s3.heap.push {cls:=.type "dict",data:=.dict #[]})).get? b=some o:=λb o e=>bQ9 (af _ e);have Z:=T.keep _ _ _ st3 λb _ o e=>kp b o e;have f4:∀b∈fp,FpOk (aQe X N' scope (ocl oc (s3.heap.objs.size+1) cl) s3.heap.objs.size fp s3 (upd H2 D so) oc) [] (upd H2 D so) b:=λb hb =>
  ⟨(U b hb).1,(ok.exf b hb).1,ok.exfs b hb,.inl hb,(ok.exf b hb).2,λp hp=>absurd (show p∈([]) from hp) (by simp)⟩
 have loop:=bXj (X:=aQe X N' scope (ocl oc (s3.heap.objs.size+1) cl) s3.heap.objs.size fp s3 (upd H2 D so) oc)
  hcalm rfl (hturn _ _ _) rfl rfl T (hg _ _ _ _ _) (ht _ _ _ _ _) (hb _ _ _ _ _ D) I4 Z f4 q3 (by
   intro H5 s6 Y _ qn;obtain⟨m6,n6,_⟩:=id Y.loc;have un:=Y.base;have hok':=Y.hok;refine fin D s3.heap.objs.size H5 s6 (O.call' Y.os un hok' Y.bare λb hb=>⟨(U b hb).2.2.2.1,(U b hb).2.1,(U b hb).2.2.2.2.1,(U b hb).2.2.2.2.2⟩) ⟨m6,n6⟩ ⟨Y.free,fI O.lt,O.sz,λx c e z=>?_,λp hp z=>?_⟩ qn
   ·obtain⟨v,q⟩:=O.cell x c e;exact absurd q.lt (by rw[z];exact cT _)
   ·exact absurd (aC (O.pin p hp).1) (by rw[z];exact cT _))
 exact bJ2 loop (T.self _ 0 _ _ _ Z loop)
theorem dXx{kn:SKn P w K κ}{m:ad->Env->Sem Unit}(hw:X.w=w)(hcalm:X.calm=true)(hN:X.N.Nodup)
  (hturn:∀it acc env,ff (.SetComp elt (⟨target,iter,ifs,0⟩::gs) scope pos) 0 it acc env=aZ0 target ifs iter.pos (m acc env) (.compLoop (.SetComp elt (⟨target,iter,ifs,0⟩::gs) scope pos) 0 it acc env) it env)
  (cp:Cap X.N scope N' is) (hi:PI X target iter wi)
  (hg:∀cl C fp s H,PG (aQe X N' scope cl C fp s H oc) target g) (ht:∀cl C fp s H,PTs (aQe X N' scope cl C fp s H oc) ifs tt) (hb:∀cl C fp s H D,PB (aQe X N' scope cl C fp s H oc) (m (.ref D) (iP scope cl C X.env)) (tb D))
  (hcf:∀n acc,eS n scope.names acc=ocl oc n acc:=by intro _ _;rfl) (hpc:∀h,gY h scope.names=ohp oc h:=by intro _;rfl)
  (hkind:scope.kind=.function:=by rfl) (hcell:∀y∈scope.names,y.2=.cell->oc=some y.1:=by decide +kernel)
  (hu:∀y∈scope.names,scope.names.lookup y.1=some y.2:=by decide +kernel) (hoc:∀x,oc=some x->scope.names.lookup x=some .cell:=by intro x h;cases h <;> rfl)
  (hVb:okV scope.names X.env.scope.names=true:=by first|rfl|kernel_rfl)
  (hs:∀x,cy iter X.env x=pure x:=by intro _;rfl) :
  PE X (.SetComp elt (⟨target,iter,ifs,0⟩::gs) scope pos) (bJ3 kn is wi g tt tb):=by
 intro pins s σ H Q I h;rw[arm_eval_SetComp];refine comp_genS hw hcalm hN hturn cp hi hg ht hb hcf hpc hkind hcell hu hoc hVb hs I h λD C G J B ⟨m,n⟩ z j=>?_;exact⟨m,n,λh' d=>⟨.ref D,G,z.gone B d,rfl,j⟩⟩
end
section
variable{X:Cx}{K:Fg}{pos:Pos}{k:Nat}{κ:Type}
theorem gZy(r:Rp K F S H)(x:Ext S H S' H'):TKp H H':=λa xs h=>by
 have d:=aK λn=>r.ntup h (.inl n);rcases h with h|⟨o,h⟩
 ·exact .inl (x.keep _ _ d h)
 ·exact .inr ⟨o,x.keep _ _ d h⟩
def bZ6{P:aA}{w:aO}(kn:SKn P w K κ)(enc:κ->D)(L:List Nat)(tv:Addr->TB)(td:BD):Prop:=∀D' F S H Γ σ acc N QD,Free L σ->F D'->Rp K F S H->RepG K (mt S F) H Γ σ->StV kn H D' acc->td Γ S (acc.map enc) QD ->
 (∀acc' S' H',ExtX D' S H S' H'->Rp K F S' H'->StV kn H' D' acc'->QD (acc'.map enc) S'->N H')->tv D' σ H N
def gZz(enc:κ->D)(te:ED):BD:=fun Γ S acc Q=>te Γ S λy S1=>∃k,y=enc k/\acc.length+1<=300/\Q (acc++[y]) S1
theorem extx_upd:ExtX D' S H S (upd H D' o):=⟨λa o n _ e=>by rw[upd_ne n];exact e,λa h=>by
  by_cases e:a=D'
  ·subst e;rw[aQ9];exact λz=>by cases z
  ·rw[upd_ne e];exact h,λa h=>.inl h⟩
theorem fZw(r:Rp K F S H)(hF:F D')(ho:Clt o):Rp K F S (upd H D' o) :=
 ⟨λa u e=>(r.obj a u e).keep (extx_upd.kp hF) (upd_ne (by rintro rfl;rw[(r.frm a hF).2] at e;cases e)),λa h=>by
   obtain⟨⟨ys,e,ct⟩,h2⟩:=r.frm a h
   by_cases z:a=D'
   ·subst z;exact⟨⟨_,aQ9,ho⟩,h2⟩
   ·exact⟨⟨ys,by rw[upd_ne z];exact e,ct⟩,h2⟩⟩
theorem eZf{kn:SKn P w K κ}(hrep:∀M H k v,RepV K M H (enc k) v->kn.rp H v k){L:List Nat}{te:ED}:bZ6 kn enc L (λD'=>dXw kn D' (upE K te)) (gZz enc te):=by
 intro D' F S H Γ σ acc N QD _ G r g st q c;refine⟨F,S,Γ,_,r,g,q,λv d H1 S1 j J v1 ⟨k,e,U,O⟩=>?_⟩;have Y:=(r.frm D' G).2;obtain⟨φ0,h0⟩:=st.at
 have Z:H1 D'=H D':=by rw[h0];exact j.keep _ _ Y h0
 have B:=st.keep Z (gZy r j);subst e;refine⟨acc,k,B,hrep _ _ _ _ v1,by simpa using U,fun φ z=>c (acc++[k]) S1 _ (j.x.trans extx_upd) (fZw J G trivial) z (by rw[bo];exact O)⟩
theorem eZg{kn:SKn P w K κ}(hg:CG K L L' g gd)(hb:bZ6 kn enc L' tv tb){D':Addr}{F:Am}{S:Sto}{H:Hp}{Γ:Gm}{σ:St}{acc:List κ}{N:Hp->Prop}{QD:List D->Sto->Prop}{J:It}{xs:List D}{G:Sto->Prop}
  (f:Free L σ) (hF:F D') (r:Rp K F S H) (gm:RepG K (mt S F) H Γ σ) (st:StV kn H D' acc) (it:∀S2 H2,ExtX D' S H S2 H2->Rp K F S2 H2->G S2->(∀i d,xs[i]?=some d->J.go i H2/\∀x H3,J.yld i H2 x H3->Ext S2 H2 S2 H3/\Rp K F S2 H3/\RepV K (mt S2 F) H3 d x)/\J.stop xs.length H2)
  (q:aZn gd tt tb G Γ xs (acc.map enc) S QD) (c:∀acc' S' H',ExtX D' S H S' H'->Rp K F S' H'->StV kn H' D' acc'->QD (acc'.map enc) S'->N H'):cQt J σ g (upT K tt) (tv D') N H:=by
 refine⟨λi m H'=>m=xs.length-i/\i<=xs.length/\∃S' acc',ExtX D' S H S' H'/\Rp K F S' H'/\StV kn H' D' acc'/\aZn gd tt tb G Γ (xs.drop i) (acc'.map enc) S' QD,⟨xs.length,by simp,bN _,S,acc,(Ext.refl _ _).x,r,st,by simpa using q⟩,?_⟩
 rintro i m H' ⟨rfl,hi,S',acc',x2,r2,U,f2⟩;have g2:=gm.keep (x2.kp hF)
 by_cases Y:i<xs.length
 ·rw[aX8 Y] at f2;obtain⟨hG,f2⟩:=f2;obtain⟨hgo,hy⟩:=(it S' H' x2 r2 hG).1 i xs[i] (ah Y);refine .inr ⟨hgo,λB=>∃Z j,ExtX D' S H Z B/\Rp K F Z B/\StV kn B D' j/\aZn gd tt tb G Γ (xs.drop (i+1)) (j.map enc) Z QD,λB z=>⟨xs.length-(i+1),by omega,rfl,Y,z⟩,λx H3 y3=>?_⟩
  obtain⟨x3,r3,v3⟩:=hy x H3 y3;refine hg F S' H3 Γ σ xs[i] x _ _ f r3 (g2.ext x3) v3 f2 fun Γ4 S4 σ4 H4 x4 r4 g4 wk fr4 q4=>⟨wk,F,S4,Γ4,_,r4,g4,q4,λz H5 S5 x5 r5 q5=>?_⟩;have O:=x3.trans (x4.trans x5);obtain⟨φ0,h0⟩:=U.at
  have h5:H5 D'=H' D':=by rw[h0];exact O.keep _ _ (r2.frm D' hF).2 h0
  have st5:=U.keep h5 (gZy r2 O);have x05:=x2.trans O.x;cases z with
  |false=>exact⟨S5,acc',x05,r5,st5,q5⟩
  |true=>exact hb D' F S5 H5 Γ4 σ4 acc' _ _ fr4 hF r5 (g4.ext x5) st5 q5 λacc6 S6 H6 x6 r6 st6 q6=>⟨S6,acc6,x05.trans x6,r6,st6,q6⟩
 ·have e:i=xs.length:=by lia
  subst e;rw[fD] at f2;exact .inl ⟨(it S' H' x2 r2 f2.1).2,c acc' S' H' x2 r2 U f2.2⟩
theorem eZh{kn:SKn P w K κ}(hL:∀σ,Free L (capt is σ))(hg:CG K L L' g gd)(hb:bZ6 kn enc L' tv tb)
  {σ:St}{H:Hp}{Q:VK}{F:Am}{S:Sto}{Γ:Gm}{QD:List D->Sto->Prop}(r:Rp K F S H) (gm:RepG K (mt S F) H Γ σ) (q:wi Γ S λxs G S1=>aZn gd tt tb G (dX7 is Γ) xs [] S1 QD)
  (c:∀p ks H' S',Ext S H S' H'->Rp K F S' H'->StV kn H' p ks->QD (ks.map enc) S'->Q (.ref p) H'):bJ3 kn is (upI K wi) g (upT K tt) tv σ H Q :=
 ⟨F,S,Γ,_,r,gm,q,λJ xs G H1 S1 x1 U it q1 D' d φ st=>by
  have B:=U.sn d;have Z:FE F H1 (λa=>F a\/a=D'):=λa h=>h.elim .inl λe=>.inr (by rw[e];exact d)
  have nF:¬ F D':=λh=>by
   obtain⟨⟨ys,e,_⟩,_⟩:=U.frm D' h;rw[d] at e;cases e
  have xe:Ext S1 H1 S1 (upd H1 D' (.ext φ)):=Ext.same (aQx d);have kp:=xe.w.kpF Z;have O:Rp K (λa=>F a\/a=D') S1 (upd H1 D' (.ext φ)):=⟨λa o e=>(U.obj a o e).keep kp (upd_ne (by rintro rfl;rw[B] at e;cases e)),λa h=>by
   rcases h with h|h
   ·obtain⟨⟨ys,e,ct⟩,h2⟩:=U.frm a h;exact⟨⟨ys,by rw[upd_ne (by rintro rfl;rw[d] at e;cases e)];exact e,ct⟩,h2⟩
   ·subst h;exact⟨⟨_,aQ9,trivial⟩,B⟩⟩
  have old:∀ {j H2},ExtX D' S1 (upd H1 D' (.ext φ)) j H2->Ext S1 H1 j H2:=λ{j H2} y=>⟨λa o h e=>y.keep a o (by rintro rfl;rw[d] at e;cases e) h (by rw[upd_ne (by rintro rfl;rw[d] at e;cases e)];exact e),λa h=>y.live a (xe.live a h),λa h=>by
   rcases y.new a h with z|z
   ·exact .inl z
   ·by_cases e:a=D'
    ·subst e;exact .inr d
    ·rw[upd_ne e] at z;exact .inr z⟩
  refine eZg hg hb (hL σ) (.inr rfl) O ((gm.ext x1).keep kp |>.capt is) st (λj H2 y O hG=>⟨it.go _ Z j H2 (old y).w O hG,it.stop _ Z j H2 (old y).w O hG⟩) q1 λN S' H' y r3 Y q3=>?_
  have less:Keep (mt S' λa=>F a\/a=D') H' (mt S' F) H':=⟨λ_ _ _ e=>e,λa h _=>λz=>h (z.elim .inl λw=>.inr (.inl w))⟩;have r4:Rp K F S' H':=⟨λa o e=>(r3.obj a o e).keep less rfl,λa h=>r3.frm a (.inl h)⟩;exact c D' N H' S' (x1.trans (old y)) r4 Y q3⟩
def srtC(enc:κ->D)(lt:κ->κ->Bool)(b:Bool)(is:List (Option Nat))(wi:ID)(g:GD)(tt:TD)(tb:BD):ED:=fun Γ S Q=>wi Γ S λxs G S1=>aZn g tt tb G (dX7 is Γ) xs [] S1 λacc S2=>∃ks:List κ,acc=ks.map enc/\∀out:List κ,out.Nodup->(∀t,t∈out↔t∈ks)->out.length<64/\(out.Pairwise (λa b=>lt a b=true)->newL b (out.map enc) S2 Q)
theorem map_inj{α β:Type}{f:α->β}(hf:∀x y,f x=f y->x=y):∀{l m:List α},l.map f=m.map f->l=m
 |[],[],_=>rfl
 |[],_::_,h=>by cases h
 |_::_,[],h=>by cases h
 |x::l,y::m,h=>by
  rw[a8,a8] at h;injection h with h1 h2
  rw[hf _ _ h1,map_inj hf h2]
theorem tupS_inj(x y:List Str)(h:tupS x=tupS y):x=y:=by
 injection h with h
 exact map_inj (λa b e=>by injection e) h
section
variable{elt target iter:Expr}{ifs:List Expr}{gs:List fq}{scope:Scope}{N':List Str}{is:List (Option Nat)}{wi:ID}{g:TG}{gd:GD}{tt:TD}{tv:Addr->TB}{tb:BD}{oc:Option Str}{m:ad->Env->Sem Unit}{b:Bool}{p pos':Pos}
theorem fZx(L L':List Nat)(hr:Room k X.A)(hgl:Gl X "sorted")(hm:X.mg "sorted"=none)(hcalm:X.calm=true)(hN:X.N.Nodup)
  (hturn:∀it acc env,ff (.SetComp elt (⟨target,iter,ifs,0⟩::gs) scope pos') 0 it acc env=aZ0 target ifs iter.pos (m acc env) (.compLoop (.SetComp elt (⟨target,iter,ifs,0⟩::gs) scope pos') 0 it acc env) it env)
  (cp:Cap X.N scope N' is) (hL:∀σ,Free L (capt is σ)) (hi:PID K X target iter wi) (hgd:CG K L L' g gd)
  (hg:∀cl C fp s H,PG (aQe X N' scope cl C fp s H oc) target g) (ht:∀cl C fp s H,PTs (aQe X N' scope cl C fp s H oc) ifs (upT K tt)) (hbd:bZ6 (dQ2 X.prog X.w K) tupS L' tv tb) (hb:∀cl C fp s H D,PB (aQe X N' scope cl C fp s H oc) (m (.ref D) (iP scope cl C X.env)) (tv D))
  (hcf:∀n acc,eS n scope.names acc=ocl oc n acc:=by intro _ _;rfl) (hpc:∀h,gY h scope.names=ohp oc h:=by intro _;rfl)
  (hkind:scope.kind=.function:=by rfl) (hcell:∀y∈scope.names,y.2=.cell->oc=some y.1:=by decide +kernel)
  (hu:∀y∈scope.names,scope.names.lookup y.1=some y.2:=by decide +kernel) (hoc:∀x,oc=some x->scope.names.lookup x=some .cell:=by intro x h;cases h <;> rfl)
  (hVb:okV scope.names X.env.scope.names=true:=by first|rfl|kernel_rfl)
  (hs:∀x,cy iter X.env x=pure x:=by intro _;rfl) (hK:X.K=K:=by rfl)
  (h1:az [Expr.SetComp elt (⟨target,iter,ifs,0⟩::gs) scope pos'] X.env=(false,eval (Expr.SetComp elt (⟨target,iter,ifs,0⟩::gs) scope pos') X.env)::az [] X.env:=by rfl) (h3:(cC pos (az [] X.env)).any (·.1)=false:=by rfl) :
  PD K X (.Call (.Name "sorted" p) [.SetComp elt (⟨target,iter,ifs,0⟩::gs) scope pos'] [] pos) (srtC tupS HT.lexS b is wi gd tt tb) :=
 .of (bQ8 (bZt (lt64 hr) hK rfl hcalm) hgl hm aJ5 (aJj (dXx rfl hcalm hN hturn cp hi.o hg ht hb hcf hpc hkind hcell hu hoc hVb hs) bX0 h1) (by decide) (by decide) h1 h3) fun σ H Q O=>O.el λF S Γ QD r gm q c =>
  show bJ3 (dQ2 X.prog X.w K) is (upI K wi) g (upT K tt) tv σ H (λv H1=>cXr X.w K [v] H1 Q) from eZh hL hgd hbd r gm q λp' ks H' S' U G st ⟨ks',hk,J⟩=>by
   have d:=map_inj tupS_inj hk;subst d;obtain⟨es,ep,t,ps,s1,s2,s3,s4,s5,B⟩:=st;obtain⟨Y,q3⟩:=J (ps.map (·.2)) s5 B;have few:t.plain=true->es.size<=1:=λz=>by
    have hl:es.size=ps.length:=by have:=bW s4;simpa using this
    have h0:=s3.2.2 z;rw[hl];cases ps with
    |nil=>exact bN _
    |cons a ps =>
     cases ps with
     |nil=>exact am _
     |cons b ps =>
      simp only[a8] at s5 h0;rw[h0 a.2 (by simp),h0 b.2 (by simp)] at s5
      exact absurd s5 (by simp)
   refine⟨_,ps.map (·.2),rfl,⟨p',es,ep,t,ps,rfl,s1,s3.1.fits,s2,few,s4,rfl⟩,s5,Y,λl ys out j pm Z pp=>?_⟩;exact Cn.new (Cn.shift c U) G j (cXs G pp) ((J out (pm.nodup_iff.mpr s5) λt=>(pm.mem_iff).trans (B t)).2 Z)
end
end
end L2
set_option maxHeartbeats 4000000
namespace HT
open PySem PyProof.Rows
def LtAt(A:aW)(s:ai)(u v:ad)(b:Bool):Prop:=∀(prog:aA) (w:aO) (E:ad->ai->Prop) (Q:ad->ai->Prop),Q (.bool b) s->aD (aE prog w) A (richCompare .Lt u v) Q E s
inductive LexAt(A:aW)(s:ai):List ad->List ad->Bool->Prop
 |nn:LexAt A s [] [] false
 |nc {v vs}:LexAt A s [] (v::vs) true
 |cn {u us}:LexAt A s (u::us) [] false
 |eq {u v us vs b}:cV A s u v true->LexAt A s us vs b->LexAt A s (u::us) (v::vs) b
 |ne {u v us vs b}:cV A s u v false->LtAt A s u v b->LexAt A s (u::us) (v::vs) b
section
open PySem.SeqAt
open PySem.AutoSeq1 (wpAny_loadPart')
open PySem.MeetsSeq PySem.MeetsSeq2 PySem.MeetsSeq3
theorem cXt:∀{us vs:List ad}{o:Bool},LexAt A s us vs o->us.zip vs=[]->o=decide (us.length<vs.length)
 |_,_,_,.nn,_=>by simp
 |_,_,_,.nc,_=>by simp
 |_,_,_,.cn,_=>by simp
 |_,_,_,.eq _ _,h=>by rw[cP] at h;cases h
 |_,_,_,.ne _ _,h=>by rw[cP] at h;cases h
theorem tuple_lt_gen(l b:Addr)(items items2:Array ad)(n n2:Nat)(dd dd2:Option Addr)(sl sl2:Array (Option ad))(o:Bool) :
  Meets (cX.«tuple.__lt__» ⟨[.ref l,.ref b],[]⟩)
   (λA R s=>s.heap.get? l=some { cls:=.type "tuple",dict:=dd,data:=.seq items n,slots:=sl }/\s.heap.get? b=some { cls:=.type "tuple",dict:=dd2,data:=.seq items2 n2,slots:=sl2 } /\
    LexAt A.in1 s items.toList items2.toList o/\R (.ok (.ret (.bool o))) s) :=
 .of_wp λprog w A R s h=>by
  obtain⟨O,g,d,N,os⟩:=s;obtain⟨hl,Y,hx,h⟩:=h;have f2:=gG;have z1:items.size=items.toList.length:=by simp
  have Z:items2.size=items2.toList.length:=by simp
  wp_walk using bM hl,bM Y,iE _ (λrest b s'=>b.1=none/\s'=⟨O,g,d,N,os⟩/\∃ (vs ws:List ad),rest=vs.zip ws /\
   LexAt A.in1 ⟨O,g,d,N,os⟩ vs ws o/\vs.length+items2.size=ws.length+items.size) _
  case turn =>
   rintro⟨y,x⟩ rest b s' ⟨D,rfl,vs,ws,hz,hx,hlen⟩;cases hx with
   |nn=>rw[f8] at hz;cases hz
   |nc=>rw[f8] at hz;cases hz
   |cn=>rw[gR] at hz;cases hz
   |eq he hx =>
    rw[cP] at hz;injection hz with z j
    injection z with G B
    subst G B;simp only[aG] at hlen;refine aa (he prog w _ _ ?_)
    wp_walk
    exact⟨rfl,rfl,_,_,j,hx,by lia⟩
   |ne he L =>
    rw[cP] at hz;injection hz with z j
    injection z with G B
    subst G B;refine aa (he prog w _ _ ?_);have J:=λQ E h=>L prog w E Q h
    wp_walk using J
    exact⟨_,rfl,by simpa using h⟩
  case fin =>
   rintro⟨b1,b2⟩ s' ⟨D,rfl,vs,ws,hz,hx,hlen⟩;simp only at D;subst D;have U:o=decide (items.size<items2.size):=by
    rw[cXt hx hz.symm]
    congr 1
    apply propext;lia
   rw[U] at h
   wp_walk
   exact⟨_,rfl,by simpa [iq] using h⟩
  case h =>
   exact⟨rfl,rfl,items.toList,items2.toList,rfl,hx,by lia⟩
theorem cZg(l b:Addr)(us vs:Array ad)(n n2:Nat)(dd dd2:Option Addr)(sl sl2:Array (Option ad))(o:Bool)(k:Nat):∀i:Nat,us.size-i=k->i<=us.size->i<=vs.size ->
  Meets (cX.«list.__eq__.loop» ⟨[.ref l,.ref b,eJ i,eJ 0],[]⟩) (λA R s=>(s.heap.get? l=some { cls:=.type "list",dict:=dd,data:=.seq us n,slots:=sl }/\s.heap.get? b=some { cls:=.type "list",dict:=dd2,data:=.seq vs n2,slots:=sl2 }) /\
   LexAt A.in1 s (us.toList.drop i) (vs.toList.drop i) o/\R (.ok (.ret (.bool o))) s):=by
 have dn:∀(xs:Array ad) (i:Nat),xs.size<=i->xs.toList.drop i=[]:=λxs i h=>fR (by simpa using h)
 have J:∀(xs:Array ad) (i:Nat) (h:i<xs.size),xs.toList.drop i=xs[i]::xs.toList.drop (i+1):=λxs i h=>by rw[cu (by simpa using h)];simp
 have an:∀(xs:Array ad) (i:Nat),xs.size<=i->xs[((i:Nat):Int).toNat]?=none:=λxs i h=>by simp;exact h
 have ac:∀(xs:Array ad) (i:Nat) (h:i<xs.size),xs[((i:Nat):Int).toNat]?=some xs[i]:=λxs i h=>by simp[h]
 have tail:∀{A:aW}{s:ai}{o:Bool}{i:Nat},i<=us.size->i<=vs.size->us.size<=i\/vs.size<=i->LexAt A s (us.toList.drop i) (vs.toList.drop i) o->o=decide (us.size<vs.size):=λ{A s o i} h1 h2 h hx=>by
  have O:(us.toList.drop i).zip (vs.toList.drop i)=[]:=by rcases h with h|h <;> rw[dn _ _ h] <;> simp
  rw[cXt hx O]
  congr 1
  apply propext;simp;lia
 induction k with
 |zero =>
  intro i Y hi j prog w A R s h;obtain⟨U,g,d,L,os⟩:=s;obtain⟨⟨gl,z⟩,hx,h⟩:=h
  wp_walk using bM gl,bM z
  rw[an us i (by lia)]
  wp_walk using bM gl,bM z
  rw[tail hi j (.inl (by lia)) hx] at h
  exact h
 |succ k N =>
  intro i Y hi j prog w A R s h;obtain⟨U,g,d,L,os⟩:=s;obtain⟨⟨gl,z⟩,hx,h⟩:=h
  wp_walk using bM gl,bM z
  rw[ac us i (by lia)]
  rcases bU i vs.size with B|B
  ·rw[ac vs i B];have Z:((i:Int)+1)=((i+1:Nat):Int):=by push_cast;rfl
   rw[J us i (by lia),J vs i B] at hx
   cases hx with
   |eq he hx =>
    refine aa (he prog w _ _ ?_)
    wp_walk
    rw[Z];exact⟨dl plain_eq_loop _,b9 entry_eq_loop (by
     rw[bH plain_eq_loop _];exact N (i+1) (by lia) (by lia) (by lia) prog w A R _ ⟨⟨gl,z⟩,hx,h⟩)⟩
   |ne he G =>
    refine aa (he prog w _ _ ?_)
    wp_walk using bM gl,bM z
    rw[ac us i (by lia),ac vs i B]
    have D:=λQ E h=>G prog w E Q h
    wp_walk using D
    exact h
  ·rw[an vs i B]
   wp_walk using bM gl,bM z
   rw[tail hi j (.inr B) hx] at h;exact h
theorem gX0(l b:Addr)(us vs:Array ad)(n n2:Nat)(dd dd2:Option Addr)(sl sl2:Array (Option ad))(o:Bool) :
  Meets (cX.«list.__lt__» ⟨[.ref l,.ref b],[]⟩) (λA R s=>(s.heap.get? l=some { cls:=.type "list",dict:=dd,data:=.seq us n,slots:=sl }/\s.heap.get? b=some { cls:=.type "list",dict:=dd2,data:=.seq vs n2,slots:=sl2 }) /\
   LexAt A.in1 s us.toList vs.toList o/\R (.ok (.ret (.bool o))) s):=by
 intro prog w A R s h;obtain⟨G,g,d,D,os⟩:=s;obtain⟨⟨gl,j⟩,B,h⟩:=h;have z:=kB
 wp_walk using bM gl,bM j
 exact⟨dl plain_eq_loop _,b9 entry_eq_loop (by
  rw[bH plain_eq_loop _];exact cZg l b us vs n n2 dd dd2 sl sl2 o _ 0 rfl (bN _) (bN _) prog w A R _ ⟨⟨gl,j⟩,B,h⟩)⟩
end
theorem ltAt_lst(hl:s.heap.IsList l us)(hb:s.heap.IsList b vs)(hx:LexAt A.in1 s us.toList vs.toList o)(hu:A.units<bR):LtAt A s (.ref l) (.ref b) o:=by
 intro prog w E Q h;obtain⟨⟨cls,dd,data,sl⟩,D,G,n,hd⟩:=id hl;obtain⟨⟨J,B,data2,z⟩,d,j,L,hd2⟩:=id hb;simp only at G hd j hd2;subst G hd j hd2;exact ig ⟨_,D,rfl⟩ ⟨_,d,rfl⟩ PySem.F.slot_list_lt PySem.F.entry_list_lt (PySem.F.args_list_lt_2 _ _) (gX0 l b us vs n L dd B sl z o) ⟨⟨D,d⟩,hx,⟨(λx=>nomatch x),h⟩⟩ hu
theorem ltAt_tup(hl:gV s.heap l items)(hb:gV s.heap b items2)(hx:LexAt A.in1 s items.toList items2.toList o)(hu:A.units<bR):LtAt A s (.ref l) (.ref b) o:=by
 intro prog w E Q h;obtain⟨⟨cls,dd,data,sl⟩,D,G,n,hd⟩:=id hl;obtain⟨⟨J,B,data2,z⟩,d,j,L,hd2⟩:=id hb;simp only at G hd j hd2;subst G hd j hd2;exact ig ⟨_,D,rfl⟩ ⟨_,d,rfl⟩ dR fO (fC _ _) (tuple_lt_gen l b items items2 n L dd B sl z o)
  ⟨D,d,hx,⟨(λx=>nomatch x),h⟩⟩ hu
end HT
namespace L2
open PySem PySem.Spec PyProof.Rows
def lexN(lt:D->D->Bool):List D->List D->Bool
 |[],[]=>false
 |[],_::_=>true
 |_::_,[]=>false
 |x::xs,y::ys=>if x=y then lexN lt xs ys else lt x y
def ltN:Nat->D->D->Bool
 |_,.int i,.int j=>decide (i<j)
 |_,.str x,.str y=>HT.ltS x y
 |n+1,.tup xs,.tup ys=>lexN (ltN n) xs ys
 |n+1,.lst xs,.lst ys=>lexN (ltN n) xs ys
 |_,_,_=>false
def okLs(ok:D->D->Bool)(n:Nat):List D->List D->Bool
 |x::xs,y::ys=>okE n x y&&(if x=y then okLs ok n xs ys else ok x y)
 |_,_=>true
def okL:Nat->D->D->Bool
 |_,.int _,.int _=>true
 |_,.str _,.str _=>true
 |n+1,.tup xs,.tup ys=>okLs (okL n) n xs ys
 |n+1,.lst xs,.lst ys=>okLs (okL n) n xs ys
 |_,_,_=>false
section
variable{X:Cx}{pins:List (Addr×Obj)}{σ:St}{H:Hp}{s:ai}{M:Am}
theorem cQe(heq:∀{d e:D}{x y:V}{u v:ad},RepV X.K M H d x->RepV X.K M H e y->RelV x u->RelV y v->okE n d e=true->cV A s u v (decide (d=e)))
  (hlt:∀{d e:D}{x y:V}{u v:ad},RepV X.K M H d x->RepV X.K M H e y->RelV x u->RelV y v->okL n d e=true->HT.LtAt A s u v (ltN n d e)) :
  ∀{ds es:List D}{xs ys:List V}{us vs:List ad},RepL X.K M H ds xs->RepL X.K M H es ys->Vals xs us->Vals ys vs->okLs (okL n) n ds es=true->HT.LexAt A s us vs (lexN (ltN n) ds es)
 |[],[],_,_,_,_,p,q,r,t,_=>by
  subst p;subst q;cases r;cases t;exact .nn
 |[],e::es,_,_,_,_,p,q,r,t,_=>by
  subst p;obtain⟨v,vs,rfl,_,_⟩:=q;cases r;cases t;exact .nc
 |d::ds,[],_,_,_,_,p,q,r,t,_=>by
  subst q;obtain⟨v,vs,rfl,_,_⟩:=p;cases r;cases t;exact .cn
 |d::ds,e::es,_,_,_,_,p,q,r,t,o=>by
  obtain⟨x,xs,rfl,G,p2⟩:=p;obtain⟨y,ys,rfl,B,N⟩:=q;cases r with
  |cons z L =>
   cases t with
   |cons t1 J =>
    unfold okLs at o;rw[aV] at o;have h1:=heq G B z t1 o.1;unfold lexN
    by_cases j:d=e
    ·rw[if_pos j];rw[if_pos j] at o;rw[decide_eq_true j] at h1;exact .eq h1 (cQe heq hlt p2 N L J o.2)
    ·rw[if_neg j];rw[if_neg j] at o;rw[decide_eq_false j] at h1;exact .ne h1 (hlt G B z t1 o.2)
theorem fZy(I:Inv X pins σ H s):∀(n:Nat) {A:aW}{d e:D}{x y:V}{u v:ad},A.units+n<bR->RepV X.K M H d x->RepV X.K M H e y->RelV x u->RelV y v->okL n d e=true->HT.LtAt A s u v (ltN n d e):=by
 intro n
 induction n with
 |zero =>
  intro A d e x y u v hu h h' r r' o;cases d <;> cases e <;> first|(cases o;done)|skip
  all_goals subst h;subst h';obtain⟨t,rfl⟩:=r;obtain⟨z,rfl⟩:=r'
  ·intro prog w E Q q;exact(k5 q)
  ·intro prog w E Q q;exact HT.rcLt_st A s _ _ _ _ prog w E Q q
 |succ n L =>
  intro A d e x y u v hu h h' r r' o;cases d <;> cases e <;> first|(cases o;done)|skip
  ·subst h;subst h';obtain⟨t,rfl⟩:=r;obtain⟨z,rfl⟩:=r';intro prog w E Q q;exact(k5 q)
  ·subst h;subst h';obtain⟨t,rfl⟩:=r;obtain⟨z,rfl⟩:=r';intro prog w E Q q;exact HT.rcLt_st A s _ _ _ _ prog w E Q q
  ·rename_i ds es;obtain⟨a,xs,rfl,t,l⟩:=h;obtain⟨b,ys,rfl,z,J⟩:=h';cases r;cases r';obtain⟨us,G,pl,_⟩:=I.tuple t.sq;obtain⟨vs,B,j,_⟩:=I.tuple z.sq;refine HT.ltAt_tup pl j ?_ (by lia)
   exact cQe (λp q r r' o=>(eq3 I n (by lia) p q r r' o).eq) (λp q r r' o=>L (by lia) p q r r' o) l J G B o
  ·rename_i ds es;obtain⟨a,xs,rfl,t,l⟩:=h;obtain⟨b,ys,rfl,z,J⟩:=h';cases r;cases r';obtain⟨us,G,pl,_⟩:=I.list t.sq;obtain⟨vs,B,j,_⟩:=I.list z.sq;refine HT.ltAt_lst pl.isList j.isList ?_ (by lia)
   exact cQe (λp q r r' o=>(eq3 I n (by lia) p q r r' o).eq) (λp q r r' o=>L (by lia) p q r r' o) l J G B o
end
end L2
set_option maxHeartbeats 1000000
namespace L2
open PySem PySem.Spec PyProof.Rows
def Kp(h h':bd):Prop:=∀b o,h.get? b=some o->h'.get? b=some o
theorem Kp.trans(x:Kp a b)(y:Kp b c):Kp a c:=λd o e=>y d o (x d o e)
end L2
set_option maxHeartbeats 4000000
namespace L2
open PySem PySem.Spec PyProof.Rows
end L2
set_option maxHeartbeats 1000000
namespace L2
open PySem PySem.Spec PyProof.Rows
section
variable{X:Cx}{K:Fg}{pos:Pos}{k:Nat}
def hQb(i:Nat)(te:ED):SD:=λE Γ S=>∃a:Int,Γ[i]?=some (some (.int a))/\te Γ S λy S1=>∃b:Int,y=.int b/\E.nx (Γ.set i (some (.int (a+b)))) S1
theorem fZz(hN:X.N.Nodup)(hi:X.N[i]?=some x)(hx:Loc X.env.scope x)(he:PD K X e te)(hf:X.fn x=true\/X.env.scope.names.lookup x=some .local:=by first|exact .inl rfl|exact .inr rfl|assumption) :
  PSD K X (.AugAssign (.Name x pos') .Add e pos) (hQb i te):=.of (fJg hN hi hx he.o fJh hf) λU σ H z=>by
 obtain⟨F,S,Γ,E,r,g,⟨a,L,q⟩,c⟩:=z;obtain⟨v,ev,B⟩:=g.at L;rw[rint B] at ev;refine⟨_,ev,F,S,Γ,_,r,g,q,λy d H1 O j D v1 ⟨b,J,G⟩=>?_⟩;subst J;rw[rint v1];exact⟨a,b,rfl,rfl,c.nx _ O _ H1 j D ((g.ext j).set (by rfl) i) G⟩
theorem fX0(M:Am)(H:Hp)(k:List Str)(v:V)(h:RepV K M H (tupS k) v):dT K dS H v k:=by
 obtain⟨a,xs,e,t,l⟩:=h;exact⟨a,xs,e,t.sq,bZ0 l⟩
theorem gX1:bZ6 (dQ2 P w K) tupS L (λD'=>dXw (dQ2 P w K) D' (upE K te)) (gZz tupS te):=eZf fX0
end
end L2
namespace L2
open PySem PyProof.Rows
section
variable{K:ar}{k:Nat}
theorem e_fn{st:Stmt}(Fn:Fun K x x st f fd)(S:FnScope N ps (aQ5 st))
  (len:∀ds S Q,sp ds S Q->ds.length=ps.length)
  (h:∀ (cdv:ad) (A:aW) (outer:List Env) (s:ai) (H:Hp) (E:XK),Room k (A.deeper (jm x (aQ5 st) s.heap.objs.size f cdv)) ->
   ∃t,PSsD K (cxOf CX0 P w K mg base N x (aQ5 st) f cdv A outer s H E).nox (aZb st) t/\∀ds S Q,sp ds S Q->t (dQ0 Q) (bQ1 N ds) S):FnOk P w K mg base CX0 (k+1) f fd ps (spU K sp):=by
 refine Fn.ok S (λvs H Q E B=>by obtain⟨F,S,ds,QD,r,l,j,c⟩:=B;rw[l.length];exact len ds S QD j) (λcdv A outer s H vs Q Y J B=>?_)
 obtain⟨F,S,ds,QD,r,l,j,c⟩:=B;obtain⟨t,h1,h2⟩:=h cdv A outer s H Y J;have fin:∀v d H' S',Ext S H S' H'->Rp K F S' H'->RepV K (mt S' F) H' d v->rtD QD d S'->Q v H':=λv d H' S' D z v1 G=>by
  obtain⟨O,U,hs,L,q⟩:=G;exact c v O H' U (D.trans (Ext.less hs)) (z.less hs) ((dXi z hs L).1 v v1) q
 exact⟨_,h1.o,F,S,bQ1 N ds,dQ0 QD,r,bJ0 l,h2 ds S QD j,fun Γ' S' σ' H' D z g1 q=>fin .non .non H' S' D z (by rfl) q,fin,λ_ _ _ _ _ _ _ q=>q.elim,λ_ _ _ _ _ _ _ q=>q.elim⟩
end
theorem us1{p:List ad->Prop}(h:∀a,p [a])(us:List ad)(ee:us.length=1):p us:=by
 cases us with
 |nil=>cases ee
 |cons a us =>
  cases us with
  |nil=>exact h a
  |cons z us=>exact absurd (eB ee) (iH _)
theorem us2{p:List ad->Prop}(h:∀a b,p [a,b])(us:List ad)(ee:us.length=2):p us:=by
 cases us with
 |nil=>cases ee
 |cons a us =>
  cases us with
  |nil=>cases ee
  |cons b us =>
   cases us with
   |nil=>exact h a b
   |cons z us=>exact absurd (eB (eB ee)) (iH _)
theorem us3{p:List ad->Prop}(h:∀a b c,p [a,b,c])(us:List ad)(ee:us.length=3):p us:=by
 cases us with
 |nil=>cases ee
 |cons a us =>
  cases us with
  |nil=>cases ee
  |cons b us =>
   cases us with
   |nil=>cases ee
   |cons c us =>
    cases us with
    |nil=>exact h a b c
    |cons z us=>exact absurd (eB (eB (eB ee))) (iH _)
theorem us4{p:List ad->Prop}(h:∀a b c d,p [a,b,c,d])(us:List ad)(ee:us.length=4):p us:=by
 cases us with
 |nil=>cases ee
 |cons a us =>
  cases us with
  |nil=>cases ee
  |cons b us =>
   cases us with
   |nil=>cases ee
   |cons c us =>
    cases us with
    |nil=>cases ee
    |cons d us =>
     cases us with
     |nil=>exact h a b c d
     |cons z us=>exact absurd (eB (eB (eB (eB ee)))) (iH _)
theorem fsc{N ps:List Str}{sc:Scope}(a:sc.kind=.function:=by rfl)(b:sc.isCoroutine=false:=by rfl)(c:sc.isGenerator=false:=by rfl)(d:N.Nodup:=by decide +kernel)(e:N.take ps.length=ps:=by rfl)(f:∀x∈ps,sc.names.lookup x=some .local\/sc.names.lookup x=some .cell:=by decide +kernel)(g:∀y∈sc.names,y.2≠.free:=by decide +kernel):FnScope N ps sc:=⟨a,b,c,d,e,f,g⟩
end L2
namespace Toy
open PySem L2
def top(i:Nat):Stmt:=PySem.Challenge.pw_corepetals_k61_whole_parts_and_bounds.main.body.getD i (.Pass ⟨0,0,0,0⟩)
end Toy
set_option maxHeartbeats 4000000
namespace L2
open PySem PySem.Spec PyProof.Rows
theorem cQf{α:Type}(l:List α)(i:Nat):∀m,(aI m).filterMap (λk=>l[i+k]?)=(l.drop i).take m
 |0=>rfl
 |m+1=>by
  rw[iY,iw,cQf l i m,cM]
  congr 1
  rw[List.getElem?_drop];simp only[ce,List.filterMap_nil];cases l[i+m]? <;> rfl
theorem gX2(lo hi:Option Int)(n:Nat):cj lo hi 1 n=(aI (HT.sIx n n hi-HT.sIx n 0 lo)).map λk=>HT.sIx n 0 lo+k:=by
 have e:cj lo hi 1 n=kz (e8 lo hi none n).1 (e8 lo hi none n).2.1 1:=rfl;obtain⟨h1,h2,_⟩:=aJy lo hi n;rw[e,h1,h2];have d:(if (1:Int)>0 then (if ((HT.sIx n 0 lo):Int)<((HT.sIx n n hi)) then (((HT.sIx n n hi):Int)-((HT.sIx n 0 lo))+1-1)/1 else 0) else (if ((HT.sIx n 0 lo):Int)>((HT.sIx n n hi)) then (((HT.sIx n 0 lo))-((HT.sIx n n hi))-1-1)/(-1) else 0)).toNat=HT.sIx n n hi-HT.sIx n 0 lo:=by
  rw[if_pos (by decide),kf]
  split <;> lia
 show(aI _).map _=_;rw[d];apply gy;intro k _;lia
theorem cutS_eq(z:Str)(lo hi:Option Int):cutS z lo hi=⟨((z.cps.toList.drop (HT.sIx z.length 0 lo)).take (HT.sIx z.length z.length hi-HT.sIx z.length 0 lo)).toArray⟩:=by
 unfold cutS;rw[gX2,ae,di];have B:HT.sIx z.length z.length hi<=z.length:=HT.sIx_le _ _ (am _) hi;have j:z.cps.toList.length=z.length:=aT
 by_cases h:(HT.sIx z.length z.length hi-HT.sIx z.length 0 lo==z.length)=true
 ·rw[if_pos h];have h':=gX h
  by_cases h0:z.length=0
  ·have:=iI h0
   cases z;simp only at this;subst this;simp
  ·have d:HT.sIx z.length 0 lo=0:=by lia
   rw[h',d,kP,cA (by lia)]
 ·rw[if_neg h,jo]
  congr 1
  have:=cQf z.cps.toList (HT.sIx z.length 0 lo) (HT.sIx z.length z.length hi-HT.sIx z.length 0 lo)
  rw[<- this]
  congr 2
  funext k;show z.cps[HT.sIx z.length 0 lo+k]?=_;rw[br]
end L2
set_option maxHeartbeats 1000000
namespace L2
open PySem
def lettersZ:Str:=aL "abcdefghijklmnopqrstuvwxyz"
theorem dXy{i:Nat}(h:i<26):atI lettersZ.cps.toList i=some (97+i):=by
 have:∀j:Fin 26,lettersZ.cps.toList[j.val]?=some (97+j.val):=by decide +kernel
 exact aZa (this ⟨i,h⟩)
end L2
set_option maxHeartbeats 4000000
namespace L2
open PySem
theorem aQd(h:n<=9999):n<=sizeLine:=by rw[aZ];lia
theorem bZ7{α:Type}:∀(l:List α) (j:Nat) (h:j<l.length),(l[j]::l.eraseIdx j).Perm l
 |a::l,0,_=>.refl _
 |a::l,j+1,h=>by
  have d:=bZ7 l j (by simpa using h)
  exact(kT _ _ _).trans (d.cons a)
theorem cQg{α β:Type}{f:α->β}(g:β->α)(hg:∀x,g (f x)=x){vs us:List β}{xs:List α}(h:(vs++us).Perm (xs.map f)):∃as bs:List α,vs=as.map f/\us=bs.map f/\(as++bs).Perm xs:=by
 have mem:∀y∈vs++us,f (g y)=y:=λy d=>by
  obtain⟨x,_,rfl⟩:=av.mp (h.mem_iff.mp d);rw[hg]
 have lift:∀l:List β,(∀y∈l,f (g y)=y)->l=(l.map g).map f:=λl hl=>by
  rw[bi];apply dY (by simp)
  intro i h1 h2;rw[gq];exact(hl _ (db h1)).symm
 refine⟨vs.map g,us.map g,lift vs λy d=>mem y (cm _ d),lift us λy d=>mem y (bq _ d),?_⟩;have p:=h.map g;rw[bo,bi] at p;have e:xs.map (g∘f)=xs:=by
  apply dY (by simp)
  intro i h1 h2;rw[gq];exact hg _
 rwa [e] at p
def dStr':D->Str
 |.str s=>s
 |_=>⟨#[]⟩
theorem mem_tups{l:List (List Str)}:tupS t∈l.map tupS↔t∈l:=by
 rw[av];exact⟨λ⟨m,h,e⟩=>by rw[<- tupS_inj _ _ e];exact h,λh=>⟨t,h,rfl⟩⟩
theorem bQ2:∀l:List Str,aZ2 (l.map D.str)=true
 |[]=>rfl
 |x::l=>by show(true&&aZ2 (l.map D.str))=true;rw[bQ2 l];rfl
theorem aX0:∀l:List (List Str),aZ2 (l.map tupS)=true
 |[]=>rfl
 |x::l=>by
  show(aZ2 (x.map D.str)&&aZ2 (l.map tupS))=true;rw[bQ2 x,aX0 l];rfl
theorem bJ4(a b:List Str):okE 8 (tupS a) (tupS b)=true:=by
 show((a.map D.str).zip (b.map D.str)).all (λp=>okE 7 p.1 p.2)=true;rw[List.zip_map,dr,ba];rintro⟨a,b⟩ _
 rfl
theorem fX1{l:List (List Str)}(hd:sqIs S d (l.map tupS))(q:Q (.bl (if neg then !decide (t∈l) else decide (t∈l))) S):inD neg (tupS t) d S Q:=by
 refine⟨l.map tupS,hd,aX0 l,by rw[dr,ba];exact λx _=>bJ4 x t,?_⟩
 have e:decide (tupS t∈l.map tupS)=decide (t∈l):=decide_eq_decide.mpr mem_tups;rw[e];exact q
end L2
namespace Toy
open PySem L2
def Pile(S:Sto)(a:Addr):Prop:=∃(cs:List Int) (i r s c:Int),S a=some (.lst [.lst (cs.map D.int),.int i,.int r,.int s,.int c])/\cs.length<=63/\0<=i/\i<=cs.length/\0<=r/\0<=s/\s<2147483629/\0<=c
theorem Pile.ne(h:Pile S a)(hp:S p=none):p≠a:=by
 obtain⟨cs,i,r,s,c,hS,_⟩:=h;rintro rfl;rw[hp] at hS;cases hS
theorem Pile.eq(h:Pile S a)(e:S' a=S a):Pile S' a:=by
 obtain⟨cs,i,r,s,c,d,k⟩:=h;exact⟨cs,i,r,s,c,e.trans d,k⟩
theorem Pile.supd(h:Pile S a)(hp:p≠a):Pile (supd S p o) a:=h.eq (supd_ne (bX hp))
def bZ8:SpD:=λds S Q=>∃ns:List Int,ds=[.lst (ns.map D.int)]/\ns.length<=63/\∀p S',S p=none->Off p S S'->Pile S' p->Q (.ref p) S'
def aQu:SpD:=λds S Q=>∃(a:Addr) (m:Int),ds=[.ref a,.int m]/\Pile S a/\1<=m/\m<1000000/\∀(r:Int) S',0<=r->r<m->Off a S S'->Pile S' a->Q (.int r) S'
theorem cXu{a lp:Addr}(hla:lp≠a){S:Sto}{xs:List D}{m:Nat}(hS:S lp=some (.lst xs))(hm:m<=xs.length)(hx:xs.length<=9999)(dk:Pile S a){Q:List D->Sto->Prop}
  (q:∀vs us S',(vs++us).Perm xs->vs.length=m->S' lp=some (.lst us)->Pile S' a->(∀b,b≠a->b≠lp->S' b=S b)->Q vs S') :
  aZn (aZp 0) dYes (bXw (dMt dXj ckL (dVar 1) (dZs (dCB aQu (dZs (dVar 2) (dZs (dCB lenD (dZs (dVar 1) dNil)) dNil))) dNil))) (λ_=>True) [none,some (.ref lp),some (.ref a)] (rngD 0 m) [] S Q:=by
 refine aJa (λi acc S'=>∃us:List D,acc.length=i/\S' lp=some (.lst us)/\(acc++us).Perm xs/\Pile S' a/\∀b,b≠a->b≠lp->S' b=S b) ⟨xs,rfl,hS,.refl _,dk,λ_ _ _=>rfl⟩ ?_ ?_
 ·rintro i x vs S' N J ⟨us,z,hl,pm,G,d⟩ hN;obtain⟨hi,rfl⟩:=eXw J;have hul:us.length+i=xs.length:=by have:=pm.length_eq;rw[ax] at this;lia
  refine⟨trivial,⟨_,hl⟩,_,hl,a,us.length,rfl,G,by lia,by lia,λU S2 r20 Z B O=>?_⟩
  have L:=(B lp hla).trans hl;obtain⟨j,rfl⟩:∃j:Nat,U=j:=⟨U.toNat,by lia⟩
  have Y:j<us.length:=by lia
  refine⟨_,j,us[j],L,rfl,by lia,ah Y,by rw[aZ];lia,hN _ _ ⟨us.eraseIdx j,?_,supd_same,?_,O.supd hla,λb h1 h2=>(supd_ne h2).trans ((B b h1).trans (d b h1 h2))⟩⟩
  ·rw[ax,z];rfl
  ·refine List.Perm.trans ?_ pm;rw[cL];exact(jF vs).mpr (bZ7 us j Y)
 ·rintro vs S' ⟨us,z,hl,pm,G,d⟩;rw[aZq] at z;exact⟨trivial,q vs us S' pm z hl G d⟩
def SetOf(names:List Str)(most:Nat)(t:List Str):Prop:=t.Nodup/\t.Pairwise (λx y=>leS x y=true)/\(∀n∈t,n∈names)/\t.length<=most
def aJs:SpD:=λds S Q=>∃(a:Addr) (names:List Str) (many:Nat),ds=[.ref a,tupS names,.int many]/\Pile S a/\names.Nodup/\names.length<=60/\many<=60/\∀t S',SetOf names many t->(t.length=many\/t.length=names.length)->Off a S S'->Pile S' a->Q (tupS t) S'
def aZx:SpD:=λds S Q=>∃(a:Addr) (names:List Str) (count:Nat) (sizes:List Nat) (most:Nat),ds=[.ref a,tupS names,.int count,.lst (sizes.map λk=>.int (k:Nat))]/\Pile S a/\names.Nodup/\names.length<=60/\count<=60/\sizes≠[]/\sizes.length<=99/\(∀k∈sizes,k<=most)/\most<=60 /\
 ∀(ts:List (List Str)) S',ts.Nodup->ts.Pairwise (λx y=>leT x y=true)->(∀t∈ts,SetOf names most t)->ts.length<=count->Off a S S'->Pile S' a->Q (.tup (ts.map tupS)) S'
theorem dQ3{α:Type}(l:List α)(nd:l.Nodup)(i m:Nat)(hi:i<=l.length)(hm:m<=l.length):(((l++l).drop i).take m).Nodup:=by
 have e:(l++l).drop i=l.drop i++l:=by rw[List.drop_append_of_le_length hi]
 rw[e];have d:(l.drop i++l.take i).Nodup:=by
  have:(l.drop i++l.take i).Perm l:=List.perm_append_comm.trans (by rw[b7])
  exact this.nodup_iff.mpr nd
 have sub:((l.drop i++l).take m).Sublist (l.drop i++l.take i):=by
  have h1:(l.drop i++l).take m=((l.drop i++l.take i)++l.drop i).take m:=by rw[cL,b7]
  rw[h1,iU (by rw[ax,bQ,a7];lia)]
  exact d8 _ _
 exact sub.nodup d
theorem fX2{p s:Str}(h:p++(⟨#[c]⟩)++s=p++(⟨#[d]⟩)++s):c=d:=by
 have e:(p.cps++#[c]++s.cps).toList=(p.cps++#[d]++s.cps).toList:=congrArg (λz:Str=>z.cps.toList) h;simpa using e
def sh2(x y:Nat):List Str:=([x,y].map λc=>sg c++sg x)++([x,y].map λc=>sg c++sg y)
theorem cQh(h:z.length<=7)(lo hi:Option Int):(cutS z lo hi).length<=7:=by
 rw[cutS_eq];show(fP _).size<=7;rw[aq,a7,bQ]
 have:z.cps.toList.length=z.length:=aT
 lia
theorem bZ9:∀w∈sh2 x y,w.length=2:=λw h=>by
 have two:∀c d:Nat,(sg c++sg d).length=2:=λc d=>by
  show((#[c])++#[d]).size=2;rw[ij];rfl
 rcases a6.mp h with h|h <;> (obtain⟨c,_,rfl⟩:=av.mp h;exact two _ _)
def w14(x y:Nat):List Str:=[x,y].map sg++sh2 x y++(sh2 x y).map (λw=>w++sg x)++(sh2 x y).map (λw=>w++sg y)
theorem bJ5(a b:Str):(a++b).length=a.length+b.length:=by
 show(a.cps++b.cps).size=_;rw[ij];rfl
theorem fX3:∀w∈w14 x y,1<=w.length:=λw h=>by
 rcases a6.mp h with h|h
 ·rcases a6.mp h with h|h
  ·rcases a6.mp h with h|h
   ·obtain⟨c,_,rfl⟩:=av.mp h;exact am 1
   ·rw[bZ9 w h];decide
  ·obtain⟨v,d,rfl⟩:=av.mp h;rw[bJ5,bZ9 v d];lia
 ·obtain⟨v,d,rfl⟩:=av.mp h;rw[bJ5,bZ9 v d];lia
def bQ3:SpD:=λds S Q=>∃(a:Addr) (many:Nat),ds=[.ref a,.int many]/\Pile S a/\many<=24/\∀(names:List Str) S',names.Nodup->names.Pairwise (λx y=>leS x y=true)->names.length=many->(∀n∈names,1<=n.length)->Off a S S'->Pile S' a->Q (tupS names) S'
end Toy
set_option maxHeartbeats 1000000
namespace Toy
open PySem L2
abbrev s_law_pile:Stmt:=top 26
theorem cZh:FnScope ["script"] ["script"] (aQ5 s_law_pile):=fsc
section
variable{P:aA}{w:aO}{K:ar}{mg:Str->Option ad}{base:bd}{pt cc:Addr}
theorem cZi(T:Tx K mg "_law_pile" s_law_pile)(B:Bs mg):Df P w K mg base 1 "_law_pile" ["script"] (spU K bZ8):=by
 refine aZ1 T cZh (λF=>F.binds λ_ _ _ _ _ _=>us1 λ_=>rfl) ?_ λf D A outer s H E G=>⟨_,(aQ4 (aQ8 (aX7 (b:=true) (aQ0 (dv 0) (aQ0 aQ6 (aQ0 aQ6 (aQ0 aQ6 (aQ0 aQ6 aQ1)))))))),?_⟩
 ·rintro ds S Q ⟨ns,rfl,_⟩;rfl
 ·rintro ds S Q ⟨ns,rfl,j,q⟩;refine⟨by show 5<=sizeLine;rw[aZ];decide,λp d=>aQ7 (q p _ d (λb z=>supd_ne z) ⟨ns,0,0,44021,0,supd_same,j,by decide,by lia,by decide,by decide,by decide,by decide⟩)⟩
end
abbrev s_law_next:Stmt:=top 27
theorem sc_law_next:FnScope ["pile", "most", "found", "cell"] ["pile", "most"] (aQ5 s_law_next):=fsc
section
variable{P:aA}{w:aO}{K:ar}{mg:Str->Option ad}{base:bd}{pt cc:Addr}
theorem cZj(T:Tx K mg "_law_next" s_law_next)(B:Bs mg)(AB:mg "abs"=none):Df P w K mg base 1 "_law_next" ["pile", "most"] (spU K aQu):=by
 refine aZ1 T sc_law_next (λF=>F.binds λ_ _ _ _ _ _=>us2 λ_ _=>rfl) ?_ λf cdv A outer s H E hr=>⟨_,(aQ2 (aQz (eQx hr (e_ix (dv 0) aQ6) aQ6) (aQ2 (aQb (i:=2) sc_law_next.nd rfl (aS rfl) (cQ2 (e_ix (dv 0) aQ6) (dv 1)))
  (aQ2 (bX6 (cQ3 (e_ix (dv 0) aQ6) (dv 1)) (bX5 (dv 0) aQ6))
  (aQ4 (aQ8 (dv 2))))) aQh)
  (aQ2 (aQz (cQ6 hr (e_ix (dv 0) aQ6) (aQs rfl B.len (aQ0 (e_ix (dv 0) aQ6) aQ1))) (aQ2 (aQb (i:=3) sc_law_next.nd rfl (aS rfl) (e_ix (e_ix (dv 0) aQ6) (e_ix (dv 0) aQ6)))
  (aQ2 (bX6 (aQr (k:=false) (e_ix (dv 0) aQ6) aQ6) (bX5 (dv 0) aQ6))
  (aQ2 (bX6 (cQ2 (aQr (k:=false) (eQw (e_ix (dv 0) aQ6) aQ6) (dv 3)) aQ6) (bX5 (dv 0) aQ6))
  (aQ2 (aQz (gJq hr (fZu rfl AB (aQ0 (dv 3) aQ1)) (gJo aQ6 aQ6)) (aQ2 (bX6 (cQ3 (fZu rfl AB (aQ0 (dv 3) aQ1)) (dv 1)) (bX5 (dv 0) aQ6))
  (aQ4 (aQ8 (cQ2 (fZu rfl AB (aQ0 (dv 3) aQ1)) (dv 1))))) aQh)
  (aQ4 (aQ8 (cQ2 (dv 3) (dv 1)))))))) aQh)
  (aQ2 (bX6 (aQr (k:=false) (e_ix (dv 0) aQ6) aQ6) (bX5 (dv 0) aQ6))
  (aQ2 (bX6 (cQ2 (aQr (k:=false) (aQr (k:=false) (eQw (e_ix (dv 0) aQ6) (e_ix (dv 0) aQ6)) (eQw aQ6 (e_ix (dv 0) aQ6))) aQ6) aQ6) (bX5 (dv 0) aQ6))
  (aQ4 (aQ8 (cQ2 (cQ3 (e_ix (dv 0) aQ6) aQ6) (dv 1)))))))),?_⟩
 ·rintro ds S Q ⟨a,m,rfl,_⟩;rfl
 ·rintro ds S Q ⟨a,m,rfl,⟨cs,i,r,sd,c,z,Y,i0,i1,Z,s0,s1,c0⟩,J,m2,q⟩;have off:∀o,Off a S (supd S a o):=λo b L=>supd_ne L;have G:∀o o',Off a S (supd (supd S a o) a o'):=λo o' b L=>by rw[supd_ne L,supd_ne L]
  have O:∀o o' U,Off a S (supd (supd (supd S a o) a o') a U):=λo o' U b L=>by rw[supd_ne L,supd_ne L,supd_ne L]
  refine⟨_,_,z,rfl,_,rfl,ite2 (λk0=>?_) λk0=>?_⟩
  ·refine⟨_,_,z,rfl,(by first|exact .inl ⟨by decide,by decide⟩|exact .inr ⟨by decide,by decide⟩|exact .inl ⟨by omega,by omega⟩|exact .inr ⟨by omega,by omega⟩|exact⟨by decide,by decide⟩|exact⟨by omega,by omega⟩|(show(0:Int)<_;first|decide|omega)|(show _<=sizeLine;rw[aZ];first|decide|omega)|decide|omega),_,_,z,rfl,⟨(by first|exact .inl ⟨by decide,by decide⟩|exact .inr ⟨by decide,by decide⟩|exact .inl ⟨by omega,by omega⟩|exact .inr ⟨by omega,by omega⟩|exact⟨by decide,by decide⟩|exact⟨by omega,by omega⟩|(show(0:Int)<_;first|decide|omega)|(show _<=sizeLine;rw[aZ];first|decide|omega)|decide|omega),(by first|exact .inl ⟨by decide,by decide⟩|exact .inr ⟨by decide,by decide⟩|exact .inl ⟨by omega,by omega⟩|exact .inr ⟨by omega,by omega⟩|exact⟨by decide,by decide⟩|exact⟨by omega,by omega⟩|(show(0:Int)<_;first|decide|omega)|(show _<=sizeLine;rw[aZ];first|decide|omega)|decide|omega)⟩,_,_,z,rfl,?_⟩
   show rtD Q (.int (r%m)) (supd S a (.lst [.lst (cs.map D.int),.int i,.int (r/m),.int sd,.int c]));exact aQ7 (q _ _ (md J).1 (md J).2 (off _) ⟨cs,i,r/m,sd,c,supd_same,Y,i0,i1,Int.ediv_nonneg Z (by omega),s0,s1,c0⟩)
  refine⟨_,_,z,rfl,_,_,z,rfl,_,rfl,_,rfl,ite2 (λk1=>?_) λk1=>?_⟩
  ·have hi:i.toNat<cs.length:=by have:=of_decide_eq_true k1;rw[ae] at this;omega
   obtain⟨cell,ei⟩:∃cell:Int,atI (cs.map D.int) i=some (.int cell):=by
    refine⟨cs[i.toNat],?_⟩
    have:=aZa (xs:=cs.map D.int) (j:=i.toNat) (v:=.int cs[i.toNat]) (by rw[aY,ah hi];rfl)
    rwa [show((i.toNat:Nat):Int)=i by omega] at this
   have d:supd S a (.lst [.lst (cs.map D.int),.int (i+1),.int r,.int sd,.int c]) a=_:=supd_same;refine⟨_,_,z,rfl,_,_,z,rfl,_,_,rfl,ei,_,_,z,rfl,_,_,z,rfl,_,_,d,rfl,.inr ⟨by decide,by decide⟩,by show(0:Int)<2147483629;decide,_,_,d,rfl,?_⟩
   have hm:=md (a:=sd*69069+cell) (b:=2147483629) (by decide)
   have N:supd (supd S a (.lst [.lst (cs.map D.int),.int (i+1),.int r,.int sd,.int c])) a (.lst [.lst (cs.map D.int),.int (i+1),.int r,.int ((sd*69069+cell)%2147483629),.int c]) a=_:=supd_same;refine⟨⟨by decide,by decide,by decide⟩,_,rfl,ite2 (λk2=>?_) λk2=>?_⟩
   ·refine⟨⟨(by first|exact .inl ⟨by decide,by decide⟩|exact .inr ⟨by decide,by decide⟩|exact .inl ⟨by omega,by omega⟩|exact .inr ⟨by omega,by omega⟩|exact⟨by decide,by decide⟩|exact⟨by omega,by omega⟩|(show(0:Int)<_;first|decide|omega)|(show _<=sizeLine;rw[aZ];first|decide|omega)|decide|omega),(by first|exact .inl ⟨by decide,by decide⟩|exact .inr ⟨by decide,by decide⟩|exact .inl ⟨by omega,by omega⟩|exact .inr ⟨by omega,by omega⟩|exact⟨by decide,by decide⟩|exact⟨by omega,by lia⟩|(first|decide|lia)|(rw[aZ];first|decide|lia)|decide|lia)⟩,_,_,N,rfl,(by first|exact .inl ⟨by decide,by decide⟩|exact .inr ⟨by decide,by decide⟩|exact .inl ⟨by lia,by lia⟩|exact .inr ⟨by lia,by lia⟩|exact⟨by decide,by decide⟩|exact⟨by lia,by lia⟩|(first|decide|lia)|(rw[aZ];first|decide|lia)|decide|lia),aQ7 (q _ _ (md J).1 (md J).2 (O _ _ _) ⟨cs,i+1,(if cell<0 then -cell else cell)/m,(sd*69069+cell)%2147483629,c,supd_same,Y,by lia,by lia,Int.ediv_nonneg (by split <;> lia) (by lia),hm.1,hm.2,c0⟩)⟩
   ·exact⟨(by first|exact .inl ⟨by decide,by decide⟩|exact .inr ⟨by decide,by decide⟩|exact .inl ⟨by lia,by lia⟩|exact .inr ⟨by lia,by lia⟩|exact⟨by decide,by decide⟩|exact⟨by lia,by lia⟩|(first|decide|lia)|(rw[aZ];first|decide|lia)|decide|lia),aQ7 (q _ _ (md J).1 (md J).2 (G _ _) ⟨cs,i+1,r,(sd*69069+cell)%2147483629,c,supd_same,Y,by lia,by lia,Z,hm.1,hm.2,c0⟩)⟩
  ·have d:supd S a (.lst [.lst (cs.map D.int),.int i,.int r,.int sd,.int (c+1)]) a=_:=supd_same;have hm:=md (a:=sd*sd+40014*(c+1)+977) (b:=2147483629) (by decide)
   have N:supd (supd S a (.lst [.lst (cs.map D.int),.int i,.int r,.int sd,.int (c+1)])) a (.lst [.lst (cs.map D.int),.int i,.int r,.int ((sd*sd+40014*(c+1)+977)%2147483629),.int (c+1)]) a=_:=supd_same;exact⟨_,_,z,rfl,_,_,z,rfl,_,_,d,rfl,_,_,d,rfl,.inl ⟨by lia,by lia⟩,_,_,d,rfl,.inl ⟨by decide,by decide⟩,by show(0:Int)<2147483629;decide,_,_,d,rfl,_,_,N,rfl,⟨by decide,by decide⟩,(by first|exact .inl ⟨by decide,by decide⟩|exact .inr ⟨by decide,by decide⟩|exact .inl ⟨by lia,by lia⟩|exact .inr ⟨by lia,by lia⟩|exact⟨by decide,by decide⟩|exact⟨by lia,by lia⟩|(first|decide|lia)|(rw[aZ];first|decide|lia)|decide|lia),aQ7 (q _ _ (md J).1 (md J).2 (G _ _) ⟨cs,i,r,(sd*sd+40014*(c+1)+977)%2147483629,c+1,supd_same,Y,i0,i1,Z,hm.1,hm.2,by lia⟩)⟩
end
abbrev s_law_names:Stmt:=top 28
theorem sc_law_names:FnScope ["pile", "many", "letters", "start", "at", "base", "pair", "short", "some"] ["pile", "many"] (aQ5 s_law_names):=fsc
section
variable{P:aA}{w:aO}{K:ar}{mg:Str->Option ad}{base:bd}{pt cc:Addr}
theorem cQi(T:Tx K mg "_law_names" s_law_names)(B:Bs mg)(d_law_next:Df P w K mg base 1 "_law_next" ["pile", "most"] (spU K aQu)):Df P w K mg base 2 "_law_names" ["pile", "many"] (spU K bQ3):=by
 refine aZ1 T sc_law_names (λF=>F.binds λ_ _ _ _ _ _=>us2 λ_ _=>rfl) ?_ λf cdv A outer s H E U=>⟨_,(aQ2 (aQb (i:=2) sc_law_names.nd rfl (fQ rfl) aXy)
  (aQ2 (aQb (i:=3) sc_law_names.nd rfl (fQ rfl) (aQ3 d_law_next U rfl (aQ0 (dv 0) (aQ0 aQ6 aQ1))))
  (aQ2 (aQb (i:=4) sc_law_names.nd rfl (fQ rfl) (aQ3 d_law_next U rfl (aQ0 (dv 0) (aQ0 aQ6 aQ1))))
  (aQ2 (aQb (i:=5) sc_law_names.nd rfl (fQ rfl) (e_ix (aX7 (b:=false) (aQ0 aXy (aQ0 aXy (aQ0 aXy (aQ0 aXy (aQ0 aXy (aQ0 aXy (aQ0 aXy (aQ0 aXy aQ1))))))))) (aQ3 d_law_next U rfl (aQ0 (dv 0) (aQ0 aQ6 aQ1)))))
  (cZb (aQz (PWD.pt (cQ8 (dZu U (aQ3 d_law_next U rfl (aQ0 (dv 0) (aQ0 aQ6 aQ1))) aQ6) (bZ1 (cQ6 U (dv 1) aQ6)))) (aQ2 (aQb (i:=6) sc_law_names.nd rfl (fQ rfl) (e_ix (aX7 (b:=false) (aQ0 aXy (aQ0 aXy (aQ0 aXy (aQ0 aXy aQ1))))) (cQ2 (dv 3) aQ6)))
  (aQ2 (aQb (i:=7) sc_law_names.nd rfl (aS rfl) (aQr (k:=false) (aQq (N':=["word", "pair"]) (oc:=none) (b:=false) [0] [] rfl sc_law_names.nd (λ_ _ _=>aQc ..) (.own (.cap (i:=6) rfl (by decide +kernel) .nil)) (aQf rfl) (eXy (dv 6)) (cg_name (i:=0)) (λ_ _ _ _ _=>aQa (i:=0) (nd_ ["word", "pair"]) rfl (aS rfl) (.inr rfl)) (λ_ _ _ _ _=>aQk) aQi (λ_ _ _ _ _ _=>aQg rfl (by exact PD.o (aQr (k:=false) (dv 0) (e_ix (dv 1) aQ6))))) (aQq (N':=["word", "pair"]) (oc:=none) (b:=false) [0] [] rfl sc_law_names.nd (λ_ _ _=>aQc ..) (.own (.cap (i:=6) rfl (by decide +kernel) .nil)) (aQf rfl) (eXy (dv 6)) (cg_name (i:=0)) (λ_ _ _ _ _=>aQa (i:=0) (nd_ ["word", "pair"]) rfl (aS rfl) (.inr rfl)) (λ_ _ _ _ _=>aQk) aQi (λ_ _ _ _ _ _=>aQg rfl (by exact PD.o (aQr (k:=false) (dv 0) (e_ix (dv 1) aQ6)))))))
  (aQ2 (aQb (i:=8) sc_law_names.nd rfl (aS rfl) (aQr (k:=false) (aQr (k:=false) (aQr (k:=false) (dXs (b:=false) rfl B.list (aQ0 (dv 6) aQ1)) (dv 7)) (aQq (N':=["word", "pair"]) (oc:=none) (b:=false) [0] [] rfl sc_law_names.nd (λ_ _ _=>aQc ..) (.own (.cap (i:=6) rfl (by decide +kernel) .nil)) (aQf rfl) (aQv (dv 7)) (cg_name (i:=0)) (λ_ _ _ _ _=>aQa (i:=0) (nd_ ["word", "pair"]) rfl (aS rfl) (.inr rfl)) (λ_ _ _ _ _=>aQk) aQi (λ_ _ _ _ _ _=>aQg rfl (by exact PD.o (aQr (k:=false) (dv 0) (e_ix (dv 1) aQ6)))))) (aQq (N':=["word", "pair"]) (oc:=none) (b:=false) [0] [] rfl sc_law_names.nd (λ_ _ _=>aQc ..) (.own (.cap (i:=6) rfl (by decide +kernel) .nil)) (aQf rfl) (aQv (dv 7)) (cg_name (i:=0)) (λ_ _ _ _ _=>aQa (i:=0) (nd_ ["word", "pair"]) rfl (aS rfl) (.inr rfl)) (λ_ _ _ _ _=>aQk) aQi (λ_ _ _ _ _ _=>aQg rfl (by exact PD.o (aQr (k:=false) (dv 0) (e_ix (dv 1) aQ6)))))))
  (aQ4 (aQ8 (aZ3 rfl B.tuple (aQ0 (aZ7 (b:=false) U rfl B.sorted (aQ0 (e_sl (b:=false) (aQr (k:=false) (dv 8) (dv 8)) (aZ4 (dv 4)) (aZ4 (aQr (k:=false) (dv 4) (dv 1)))) aQ1)) aQ1))))))) aQh)
  (aQ4 (aQ8 (aZ3 rfl B.tuple (aQ0 (aZ7 (b:=false) U rfl B.sorted (aQ0 (aQq (N':=["k", "base", "at", "letters", "start"]) (oc:=none) (b:=false) [0] [] rfl sc_law_names.nd (λ_ _ _=>aQc ..) (.own (.cap (i:=5) rfl (by decide +kernel) (.cap (i:=4) rfl (by decide +kernel) (.cap (i:=2) rfl (by decide +kernel) (.cap (i:=3) rfl (by decide +kernel) .nil))))) (aQf rfl) (aZi rfl B.range (aQ0 (dv 1) aQ1)) (cg_name (i:=0)) (λ_ _ _ _ _=>aQa (i:=0) (nd_ ["k", "base", "at", "letters", "start"]) rfl (aS rfl) (.inr rfl)) (λ_ _ _ _ _=>aQk) aQi (λ_ _ _ _ _ _=>aQg rfl (by exact PD.o (aQr (k:=false) (aQr (k:=false) (e_sl (b:=false) (dv 1) aZh (aZ4 (dv 2))) (e_ix (dv 3) (cQ2 (aQr (k:=false) (dv 4) (eQw aQ6 (dv 0))) aQ6))) (e_sl (b:=false) (dv 1) (aZ4 (dv 2)) aZh))))) aQ1)) aQ1))))))))),?_⟩
 ·rintro ds S Q ⟨a,many,rfl,_⟩;rfl
 ·rintro ds S Q ⟨a,many,rfl,dk,m24,q⟩;refine⟨a,26,rfl,dk,by decide,by decide,λJ S1 r10 r11 off1 dk1=>?_⟩
  refine⟨a,8,rfl,dk1,by decide,by decide,λd S2 r20 r21 off2 dk2=>?_⟩
  refine⟨aQd (by decide),a,8,rfl,dk2,by decide,by decide,λO S3 r30 r31 Z dk3=>?_⟩
  obtain⟨z,hz,hzl⟩:∃z:Str,atI [D.str (aL ""),D.str (aL ""),D.str (aL "room"),D.str (aL "lengthy"),D.str (aL "zzz"),D.str (aL "qx"),D.str (aL "kkkkkk"),D.str (aL "none")] O=some (.str z)/\z.length<=7:=by
   have h:O=0\/O=1\/O=2\/O=3\/O=4\/O=5\/O=6\/O=7:=by omega
   rcases h with rfl|rfl|rfl|rfl|rfl|rfl|rfl|rfl <;> exact⟨_,rfl,by decide⟩
  have L:∀{S'},Off a S3 S'->Off a S S':=λo=>off1.trans (off2.trans (Z.trans o));refine⟨_,_,rfl,hz,?_⟩;refine⟨fun Γ' S'=>Γ'=[some (.ref a),some (.int many),some (.str lettersZ),some (.int J),some (.int d),some (.str z),none,none,none]/\Off a S S'/\Pile S' a,?_,?_⟩
  ·refine⟨a,4,rfl,dk3,by decide,by decide,λr4 S4 r40 r41 G N=>⟨rfl,_,rfl,ite2 (λc1=>?_) λc1=>⟨rfl,L G,N⟩⟩⟩
   refine⟨_,rfl,ite2 (λc2=>?_) λc2=>⟨rfl,L G,N⟩⟩;have m15:many<15:=by have:=of_decide_eq_true c2;omega
   obtain⟨x,y,hp,hnd⟩:∃x y:Nat,atI [D.str (aL "ab"),D.str (aL "qx"),D.str (aL "yz"),D.str (aL "mn")] (J%4)=some (.str ⟨#[x,y]⟩)/\(w14 x y).Nodup:=by
    have h:J%4=0\/J%4=1\/J%4=2\/J%4=3:=by omega
    rcases h with h|h|h|h <;> rw[h]
    ·exact⟨97,98,rfl,by decide +kernel⟩
    ·exact⟨113,120,rfl,by decide +kernel⟩
    ·exact⟨121,122,rfl,by decide +kernel⟩
    ·exact⟨109,110,rfl,by decide +kernel⟩
   refine⟨aQd (by show 4<=9999;decide),by show(0:Int)<4;decide,_,_,rfl,hp,?_⟩
   refine aQn (enc:=λc:Nat=>D.str ⟨#[c]⟩) (xs:=[x,y]) (f:=λc=>D.str (sg c++sg x)) (λc _ Q q=>⟨aQd (by show 2<=9999;decide),x,aZa (j:=0) rfl,aQd (by show 1+1<=9999;decide),q⟩) (aQd (by show 2<=9999;decide)) ?_
   refine aQn (enc:=λc:Nat=>D.str ⟨#[c]⟩) (xs:=[x,y]) (f:=λc=>D.str (sg c++sg y)) (λc _ Q q=>⟨aQd (by show 2<=9999;decide),y,aZa (j:=1) rfl,aQd (by show 1+1<=9999;decide),q⟩) (aQd (by show 2<=9999;decide)) ?_
   refine⟨_,_,rfl,rfl,aQd (by show 4<=9999;decide),by show 2<=1000;decide,_,_,rfl,rfl,aQd (by show 6<=9999;decide),(sh2 x y).map D.str,rfl,?_⟩
   refine aQn (enc:=D.str) (xs:=sh2 x y) (f:=λw=>D.str (w++sg x)) (λw hw Q q=>⟨aQd (by show 2<=9999;decide),x,aZa (j:=0) rfl,aQd (by rw[bZ9 w hw];show 2+1<=9999;decide),q⟩) (aQd (by show 4<=9999;decide)) ?_
   refine⟨_,_,rfl,rfl,aQd (by show 10<=9999;decide),(sh2 x y).map D.str,rfl,?_⟩
   refine aQn (enc:=D.str) (xs:=sh2 x y) (f:=λw=>D.str (w++sg y)) (λw hw Q q=>⟨aQd (by show 2<=9999;decide),y,aZa (j:=1) rfl,aQd (by rw[bZ9 w hw];show 2+1<=9999;decide),q⟩) (aQd (by show 4<=9999;decide)) ?_
   refine⟨_,_,rfl,rfl,aQd (by show 14<=9999;decide),_,_,rfl,rfl,aQd (by show 28<=9999;decide),d,rfl,d+many,rfl,_,rfl,?_⟩
   obtain⟨i,rfl⟩:∃i:Nat,d=i:=⟨d.toNat,by omega⟩
   have hi:i<8:=by omega
   have h14:(w14 x y).length=14:=rfl;have Y:=dQ3 (w14 x y) hnd i many (by omega) (by omega)
   have hlen:(((w14 x y++w14 x y).drop i).take many).length=many:=by rw[a7,bQ,ax,h14];omega
   have sp:=aZr (((w14 x y++w14 x y).drop i).take many);refine .inl ⟨((w14 x y++w14 x y).drop i).take many,?_,by rw[hlen];omega,_,rfl,aQ7 (q _ _ (sp.nodup_iff.mpr Y) (bX8 _) (by rw[sp.length_eq,hlen]) (λn hn=>fX3 n ((a6.mp (fg (gj (sp.mem_iff.mp hn)))).elim id id)) (L G) N)⟩
   have ec:cutD ((w14 x y++w14 x y).map D.str) (some (i:Int)) (some ((i:Int)+(many:Int)))=(((w14 x y++w14 x y).drop i).take many).map D.str:=by
    rw[aJb,show(i:Int)+(many:Int)=((i+many:Nat):Int) by omega,HT.sIx_nat,HT.sIx_nat,ax,h14,eV (by omega),eV (by omega),Nat.add_sub_cancel_left]
   exact ec.symm
  ·rintro Γ' S4 ⟨rfl,G,N⟩;refine⟨⟨by omega,by omega⟩,?_⟩
   rw[cr,fZm];refine aQn (enc:=λk:Nat=>D.int (k:Nat)) (f:=λk=>D.str (cutS z none (some d)++(⟨#[97+((J+5*(k:Int))%26).toNat]⟩:Str)++cutS z (some d) none)) (λk hk Q q=>?_) (aQd (by rw[di];show 0+many<=_;omega)) ?_
   ·have hb:(J+5*(k:Int))%26=((((J+5*(k:Int))%26).toNat:Nat):Int):=by omega
    have hat:atI lettersZ.cps.toList ((J+5*(k:Int))%26)=some (97+((J+5*(k:Int))%26).toNat):=by
     rw[hb];exact dXy (by omega)
    have l1:=cQh hzl none (some d);have l2:=cQh hzl (some d) none;have l3:(cutS z none (some d)++(⟨#[97+((J+5*(k:Int))%26).toNat]⟩:Str)).length=(cutS z none (some d)).length+1:=by
     show((cutS z none (some d)).cps++#[_]).size=_;rw[ij];rfl
    exact⟨d,rfl,by omega,.inl ⟨by decide,by decide⟩,by show(0:Int)<26;decide,by decide,_,hat,aQd (by show(cutS z none (some d)).length+1<=9999;omega),d,rfl,by omega,aQd (by rw[l3];omega),q⟩
   ·have Y:((aI many).map λk:Nat=>cutS z none (some d)++(⟨#[97+((J+5*(k:Int))%26).toNat]⟩:Str)++cutS z (some d) none).Nodup:=by
     unfold List.Nodup;rw[bu];refine be ?_ (fM);intro k k' hk hk' hlt e
     have:=fX2 e
     have h1:=aU.mp hk;have h2:=aU.mp hk';omega
    have sp:=aZr ((aI many).map λk:Nat=>cutS z none (some d)++(⟨#[97+((J+5*(k:Int))%26).toNat]⟩:Str)++cutS z (some d) none);refine .inl ⟨_,?_,by rw[ae,di];omega,_,rfl,aQ7 (q _ _ (sp.nodup_iff.mpr Y) (bX8 _) (by rw[sp.length_eq,ae,di]) (λn hn=>by obtain⟨k,_,rfl⟩:=av.mp (sp.mem_iff.mp hn);rw[bJ5,bJ5];show 1<=_+1+_;omega) G N)⟩
    rw[bi];rfl
end
abbrev s_law_set:Stmt:=top 29
theorem sc_law_set:FnScope ["pile", "names", "many", "left"] ["pile", "names", "many"] (aQ5 s_law_set):=fsc
section
variable{P:aA}{w:aO}{K:ar}{mg:Str->Option ad}{base:bd}{pt cc:Addr}
theorem dQ4(T:Tx K mg "_law_set" s_law_set)(B:Bs mg)(d_law_next:Df P w K mg base 1 "_law_next" ["pile", "most"] (spU K aQu)):Df P w K mg base 2 "_law_set" ["pile", "names", "many"] (spU K aJs):=by
 refine aZ1 T sc_law_set (λF=>F.binds λ_ _ _ _ _ _=>us3 λ_ _ _=>rfl) ?_ λf cdv A outer s H E O=>⟨_,(aQ2 (aQb (i:=3) sc_law_set.nd rfl (fQ rfl) (cQ9 (b:=true) rfl B.list (aQ0 (dv 1) aQ1)))
  (aQ4 (aQ8 (aZ3 rfl B.tuple (aQ0 (aZ7 (b:=false) O rfl B.sorted (aQ0 (aQq (oc:=none) (b:=false) [0] [] rfl sc_law_set.nd (λ_ _ _=>aQc ..) (.own (.cap (i:=3) rfl (by decide +kernel) (.cap (i:=0) rfl (by decide +kernel) .nil))) (aQf rfl) (aZi rfl B.range (aQ0 (gZ3 rfl B.min (aQ0 (dv 2) (aQ0 (aQs rfl B.len (aQ0 (dv 1) aQ1)) aQ1))) aQ1)) (cg_name) (λ_ _ _ _ _=>aQa (nd_ ["k", "left", "pile"]) rfl (aS rfl) (.inr rfl)) (λ_ _ _ _ _=>aQk) aQi (λ_ _ _ _ _ _=>aQg rfl (PD.o (cZc (dv 1) (aQ0 (aQ3 d_law_next O rfl (aQ0 (dv 2) (aQ0 (aQs rfl B.len (aQ0 (dv 1) aQ1)) aQ1))) aQ1))))) aQ1)) aQ1))))),?_⟩
 ·rintro ds S Q ⟨a,names,many,rfl,_⟩;rfl
 ·rintro ds S Q ⟨a,names,many,rfl,dk,nd,U,Z,q⟩;refine⟨_,rfl,λlp G=>?_⟩;have d:=dk.ne G;obtain⟨m,hm,mm,Y,mo⟩:∃m:Nat,(λi j:Int=>if j<i then j else i) many ((names.map D.str).length)=m/\m<=many/\m<=names.length/\(m=many\/m=names.length):=by
   rw[ae];show ∃m:Nat,(if (names.length:Int)<many then (names.length:Int) else many)=m/\_
   split
   ·exact⟨names.length,rfl,by lia,am _,.inr rfl⟩
   ·exact⟨many,rfl,am _,by lia,.inl rfl⟩
  refine⟨_,rfl,?_,?_⟩
  ·rw[hm];exact⟨by lia,by lia⟩
  rw[hm,cr];refine cXu d supd_same (by rw[ae];exact Y) (by rw[ae];lia) (dk.supd d) λvs us S' pm L hl N z=>?_
  obtain⟨as,bs,rfl,rfl,pn⟩:=cQg dStr' (λ_=>rfl) pm;rw[ae] at L;have J:=(bY.mp (pn.nodup_iff.mpr nd)).1;have sp:=aZr as;refine .inl ⟨as,rfl,by lia,_,rfl,aJ2 dZq (q (srS as) _ ⟨sp.nodup_iff.mpr J,bX8 as,λn h=>pn.mem_iff.mp (cm _ (sp.mem_iff.mp h)),by rw[sp.length_eq];lia⟩ (by rw[sp.length_eq];lia) (λb hb=>?_) (N.eq (bQz (bX d))))⟩
  by_cases e:b=lp
  ·subst e;rw[bQy,G]
  ·rw[bQz e,z b hb e,supd_ne e]
end
abbrev s_law_collection:Stmt:=top 30
theorem sc_law_collection:FnScope ["pile", "names", "count", "sizes", "found", "k", "one"] ["pile", "names", "count", "sizes"] (aQ5 s_law_collection):=fsc
section
variable{P:aA}{w:aO}{K:ar}{mg:Str->Option ad}{base:bd}{pt cc:Addr}
theorem aJt(T:Tx K mg "_law_collection" s_law_collection)(B:Bs mg)(d_law_next:Df P w K mg base 2 "_law_next" ["pile", "most"] (spU K aQu))(d_law_set:Df P w K mg base 2 "_law_set" ["pile", "names", "many"] (spU K aJs)):Df P w K mg base 3 "_law_collection" ["pile", "names", "count", "sizes"] (spU K aZx):=by
 refine aZ1 T sc_law_collection (λF=>F.binds λ_ _ _ _ _ _=>us4 λ_ _ _ _=>rfl) ?_ λf cdv A outer s H E hr=>⟨_,(aQ2 (aQb (i:=4) sc_law_collection.nd rfl (aS rfl) (aX7 (b:=true) aQ1))
  (aQ2 (aX9 cS rfl (aZi rfl B.range (aQ0 (dv 2) aQ1)) (aZ5 (i:=5) sc_law_collection.nd rfl (aS rfl)) (aQ2 (aQb (i:=6) sc_law_collection.nd rfl (aS rfl) (aQ3 d_law_set hr rfl (aQ0 (dv 0) (aQ0 (dv 1) (aQ0 (e_ix (dv 3) (aQ3 d_law_next hr rfl (aQ0 (dv 0) (aQ0 (aQs rfl B.len (aQ0 (dv 3) aQ1)) aQ1)))) aQ1)))))
  (aQ4 (aQz (cQ5 hr (dv 6) (dv 4)) (aQ4 (bZ2 (cXj (dv 4) (aQ0 (dv 6) aQ1)))) aQh))))
  (aQ4 (aQ8 (aZ3 rfl B.tuple (aQ0 (aZ7 (b:=false) hr rfl B.sorted (aQ0 (dv 4) aQ1)) aQ1)))))),?_⟩
 ·rintro ds S Q ⟨a,names,count,sizes,most,rfl,_⟩;rfl
 ·rintro ds S Q ⟨a,names,count,sizes,most,rfl,dk,nd,n60,c60,sne,s99,smost,m60,q⟩;refine⟨aQd (by decide),λfp hfp=>⟨⟨by lia,by lia⟩,?_⟩⟩
  have J:=dk.ne hfp;have hs1:1<=sizes.length:=by cases sizes with|nil=>exact absurd rfl sne|cons _ _=>simp
  rw[cr];refine aZk (λi Γ S'=>∃(x5 x6:Option D) (ts:List (List Str)),Γ=[some (.ref a),some (tupS names),some (.int count),some (.lst (sizes.map λk=>.int (k:Nat))),some (.ref fp),x5,x6]/\S' fp=some (.lst (ts.map tupS))/\ts.length<=i/\ts.Nodup/\(∀t∈ts,SetOf names most t)/\Pile S' a/\∀b,b≠a->b≠fp->S' b=S b) ⟨none,none,[],rfl,supd_same,am _,dM,by simp,dk.supd J,λb _ hb=>supd_ne hb⟩ ?_ ?_
  ·rintro i x Γ S' N hx ⟨x5,x6,ts,rfl,hf,hl,d,L,dk',G⟩ hN;obtain⟨hi,rfl⟩:=eXw hx;refine⟨trivial,_,rfl,a,_,rfl,dk',by rw[ae];lia,by rw[ae];lia,λr S2 r0 r1 Z dk2=>?_⟩
   rw[ae] at r1;have hr:r.toNat<sizes.length:=by lia
   have hat:atI (sizes.map λk=>D.int (k:Nat)) r=some (.int (sizes[r.toNat])):=by
    have:=aZa (xs:=sizes.map λk=>D.int (k:Nat)) (by rw[aY,ah hr];rfl)
    rwa [show(r.toNat:Int)=r by lia] at this
   have hsz:=smost _ (db hr);refine⟨_,_,rfl,hat,a,names,sizes[r.toNat],rfl,dk2,nd,n60,by lia,λt S3 ht _ Y dk3=>?_⟩
   have O:=(Y fp J).trans ((Z fp J).trans hf);have ht':SetOf names most t:=⟨ht.1,ht.2.1,ht.2.2.1,aH ht.2.2.2 hsz⟩;have U:=λb h1 h2=>(Y b h1).trans ((Z b h1).trans (G b h1 h2));refine⟨ts.map tupS,O,aX0 ts,by rw[dr,ba];exact λx _=>bJ4 x t,_,rfl,?_⟩
   have e:decide (tupS t∈ts.map tupS)=decide (t∈ts):=decide_eq_decide.mpr mem_tups;rw[if_pos rfl,e]
   by_cases hin:t∈ts
   ·rw[decide_eq_true hin];exact hN _ _ ⟨_,_,ts,rfl,O,by lia,d,L,dk3,U⟩
   ·rw[decide_eq_false hin];refine⟨⟨_,O⟩,_,O,by rw[ae,aZ];lia,hN _ _ ⟨_,_,ts++[t],rfl,?_,?_,?_,?_,dk3.supd J,λb h1 h2=>(supd_ne h2).trans (U b h1 h2)⟩⟩
    ·rw[supd_same,bo];rfl
    ·rw[ax];show ts.length+1<=_;lia
    ·rw[bY];exact⟨d,bA.mpr ⟨by simp,dM⟩,λx hx y hy=>by rw[aF.mp hy];rintro rfl;exact hin hx⟩
    ·intro z hz;rcases a6.mp hz with hz|hz
     ·exact L z hz
     ·rw[aF.mp hz];exact ht'
  ·rintro Γ S' ⟨x5,x6,ts,rfl,hf,hl,d,L,dk',G⟩;rw[aZq] at hl;have sp:=aXp ts;refine⟨trivial,.inr (.inr ⟨ts,.inl hf,d,by lia,_,rfl,aJ2 dZq (q (srT ts) _ (sp.nodup_iff.mpr d) (cXk ts) (λt h=>L t (sp.mem_iff.mp h)) (by rw[sp.length_eq];exact hl) (λb hb=>?_) (dk'.eq (bQz (bX J))))⟩)⟩
   by_cases e:b=fp
   ·subst e;rw[bQy,hfp]
   ·rw[bQz e,G b hb e]
end
end Toy
namespace Toy
variable{α:Type}
def ch:List α->Nat->List (List α)
 |_,0=>[[]]
 |[],_+1=>[]
 |x::xs,n+1=>(ch xs n).map (x::·)++ch xs (n+1)
theorem aQp(xs:List α):ch xs 0=[[]]:=by cases xs <;> rfl
theorem eXz(n:Nat):ch ([]:List α) (n+1)=[]:=rfl
theorem aQl(x:α)(xs:List α)(n:Nat):ch (x::xs) (n+1)=(ch xs n).map (x::·)++ch xs (n+1):=rfl
theorem ch_big:∀(xs:List α) (n:Nat),xs.length<n->ch xs n=[]
 |[],0,h=>by simp at h
 |[],n+1,_=>rfl
 |x::xs,0,h=>by simp at h
 |x::xs,n+1,h=>by
  simp only[aG] at h;rw[aQl,ch_big xs n (by lia),ch_big xs (n+1) (by lia)]
  rfl
theorem bXa:∀(xs:List α) (n:Nat),(ch xs n).length<=2^xs.length
 |[],0=>by simp[ch]
 |[],n+1=>by simp[ch]
 |x::xs,0=>by
  rw[aQp];exact jA
 |x::xs,n+1=>by
  rw[aQl,ax,ae,aG,jb]
  have:=bXa xs n
  have:=bXa xs (n+1)
  lia
theorem ch_mem:∀{xs:List α}{n:Nat}{s:List α},s∈ch xs n->s.length=n/\s.Sublist xs
 |[],0,s,h=>by
  have:s=[]:=by simpa [ch] using h
  subst this;exact⟨rfl,.slnil⟩
 |[],n+1,s,h=>by simp[ch] at h
 |x::xs,0,s,h=>by
  have:s=[]:=by simpa [ch] using h
  subst this;exact⟨rfl,eH _⟩
 |x::xs,n+1,s,h=>by
  rw[aQl,a6,av] at h;rcases h with⟨r,d,rfl⟩|h
  ·obtain⟨a,b⟩:=ch_mem d;exact⟨by simp[a],b.cons_cons x⟩
  ·obtain⟨a,b⟩:=ch_mem h;exact⟨a,b.cons x⟩
theorem fX4(xs:List α)(i n:Nat)(h:i<xs.length):ch (xs.drop i) (n+1)=(ch (xs.drop (i+1)) n).map (xs[i]::·)++ch (xs.drop (i+1)) (n+1):=by
 rw[cu h]
 rfl
theorem aZd:∀{xs:List α}{s:List α},s.Sublist xs->s∈ch xs s.length
 |[],s,h=>by
  have:=fG.mp h
  subst this;simp[ch]
 |x::xs,[],h=>by simp[ch]
 |x::xs,y::s,h=>by
  rw[aG,aQl,a6,av];cases h with
  |cons _ h=>right;exact aZd h
  |cons_cons _ h=>left;exact⟨s,aZd h,rfl⟩
end Toy
namespace Toy
variable{α:Type}
def ext(lt:α->α->Bool)(z:α)(sets:List α)(s:List α):List (List α):=(sets.filter λo=>lt (s.getLastD z) o).map λo=>s++[o]
theorem aXa:∀{s:List α},s≠[]->s.getLastD z∈s
 |[],h=>absurd rfl h
 |[x],_=>by simp
 |x::y::s,_=>by
  have:=aXa (z:=z) (s:=y::s) (by simp)
  simp only[jB] at this ⊢;exact ak _ this
theorem getLastD_cons':∀{s:List α},s≠[]->(x::s).getLastD z=s.getLastD z
 |[],h=>absurd rfl h
 |y::s,_=>by simp[jB]
theorem dXz:∀xs:List α,ch xs 1=xs.map λx=>[x]
 |[]=>rfl
 |x::xs=>by rw[aQl,aQp,dXz xs];rfl
theorem bJ6{β:Type}{f g:α->List β}:∀{l:List α},(∀a∈l,f a=g a)->l.flatMap f=l.flatMap g
 |[],_=>rfl
 |a::l,h=>by rw[cB,cB,h a aj,bJ6 λb d=>h b (ak _ d)]
theorem bXb:∀{sets:List α},sets.Pairwise (λa b=>lt a b=true/\lt b a=false)->(∀a,lt a a=false)->∀k,(ch sets (k+1)).flatMap (ext lt z sets)=ch sets (k+2)
 |[],_,_,k=>rfl
 |x::xs,G,irr,k=>by
  obtain⟨B,d⟩:=aM.mp G;have out:∀s:List α,s≠[]->(∀o∈s,o∈xs)->ext lt z (x::xs) s=ext lt z xs s:=λs hs hm=>by
   unfold ext;rw[cH,(B _ (hm _ (aXa hs))).2]
   rfl
  have tail:(ch xs (k+1)).flatMap (ext lt z (x::xs))=ch xs (k+2):=by
   rw[<- bXb d irr k];refine bJ6 λs hs=>?_;obtain⟨h1,h2⟩:=ch_mem hs;exact out s (by rintro rfl;simp at h1) λo D=>h2.subset D
  rw[aQl,i9,tail,aQl]
  congr 1
  cases k with
  |zero =>
   rw[aQp,dXz];simp only[a8,e5,cB,List.flatMap_nil,cR];unfold ext;have e:([x]).getLastD z=x:=rfl;rw[e,cH,irr x];simp only[aJ,if_false];rw[dP.mpr λo D=>(B o D).1,bi]
   rfl
  |succ k =>
   rw[<- bXb d irr k,List.flatMap_map,List.map_flatMap];refine bJ6 λs hs=>?_;obtain⟨h1,h2⟩:=ch_mem hs;have j:s≠[]:=by rintro rfl;simp at h1
   unfold ext;rw[getLastD_cons' j,cH,(B _ (h2.subset (aXa j))).2];simp only[aJ,if_false,bi]
   rfl
theorem aZl{β:Type}{f:α->List β}:∀{l m:List α},l.Sublist m->(l.flatMap f).Sublist (m.flatMap f)
 |_,_,.slnil=>.slnil
 |_,_,.cons a h=>by rw[cB];exact(aZl h).trans (List.sublist_append_right _ _)
 |_,_,.cons_cons a h=>by rw[cB,cB];exact(cZ _).append (aZl h)
def flw(lt:α->α->Bool)(z:α)(ok:List α->Bool)(sets:List α):Nat->List (List α)
 |0=>ch sets 2
 |j+1=>((flw lt z ok sets j).flatMap (ext lt z sets)).filter ok
theorem dJ0{lt:α->α->Bool}(hp:sets.Pairwise (λa b=>lt a b=true/\lt b a=false))(irr:∀a,lt a a=false):∀j,(flw lt z ok sets j).Sublist (ch sets (j+2))
 |0=>cZ _
 |j+1=>by
  refine(bj ..).trans ?_;rw[<- bXb hp irr (j+1)];exact aZl (dJ0 hp irr j)
theorem aZu{β:Type}{f:α->List β}{q:β->Bool}:∀l:List α,(l.flatMap f).filter q=l.flatMap λa=>(f a).filter q
 |[]=>rfl
 |a::l=>by rw[cB,cB,dw,aZu l]
theorem cQj{lt:α->α->Bool}(hp:sets.Pairwise (λa b=>lt a b=true/\lt b a=false))(irr:∀a,lt a a=false)(h2:∀s∈ch sets 2,ok s=true)
  (pre:∀s o,2<=s.length->(s++[o]).Sublist sets->ok (s++[o])=true->ok s=true):∀j,flw lt z ok sets j=(ch sets (j+2)).filter ok
 |0=>(dP.mpr h2).symm
 |j+1=>by
  show((flw lt z ok sets j).flatMap (ext lt z sets)).filter ok=_;rw[cQj hp irr h2 pre j,<- bXb hp irr (j+1),aZu,aZu];have key:∀l:List (List α),(∀s∈l,s∈ch sets (j+2))->(l.filter ok).flatMap (λa=>(ext lt z sets a).filter ok)=l.flatMap λa=>(ext lt z sets a).filter ok:=λl=>by
   induction l with
   |nil=>intro _;rfl
   |cons s l D =>
    intro h;rw[cH,cB];cases hs:ok s with
    |true=>rw[if_pos rfl,cB,D λt d=>h t (ak _ d)]
    |false =>
     rw[if_neg (by simp),D λt d=>h t (ak _ d)]
     have:(ext lt z sets s).filter ok=[]:=by
      rw[eD];intro t d;unfold ext at d;rw[av] at d;obtain⟨o,G,rfl⟩:=d;intro J;have B:s++[o]∈ch sets (j+3):=by
       rw[<- bXb hp irr (j+1),iJ];exact⟨s,h s aj,by unfold ext;rw[av];exact⟨o,G,rfl⟩⟩
      have:=pre s o (by rw[(ch_mem (h s aj)).1];lia) (ch_mem B).2 J
      rw[hs] at this;cases this
     rw[this,c9]
  exact key _ λs hs=>hs
end Toy
namespace Toy
variable{β:Type}[DecidableEq β]
def Sun(s:List (List β)):Prop:=s.Pairwise λa b=>∀n,n∈a->n∈b->∀o∈s,n∈o
def naG(s:List (List β)):List β:=(s.headD []).filter λn=>s.all λo=>decide (n∈o)
def lfG(s:List (List β)):List β:=s.flatMap λo=>o.filter λd=>!decide (d∈naG s)
def coG(s:List (List β)):Option (List β):=if s.length<2\/¬ s.Nodup then none else if (lfG s).Nodup then some (naG s) else none
theorem bQ4(hs:s≠[]){n:β}:n∈naG s↔∀o∈s,n∈o:=by
 unfold naG;rw[ao,ba];simp only[decide_eq_true_eq];refine⟨λh=>h.2,λh=>⟨?_,h⟩⟩;cases s with
 |nil=>exact absurd rfl hs
 |cons a s=>exact h a aj
theorem cXv{s:List (List β)}(hs:s≠[])(hn:∀o∈s,o.Nodup):(lfG s).Nodup↔Sun s:=by
 unfold lfG Sun List.Nodup;rw[List.pairwise_flatMap];refine⟨λh=>h.2.imp_of_mem ?_,λh=>⟨λo N=>(hn o N).filter _,h.imp_of_mem ?_⟩⟩
 ·intro a b Y U d n na nb;refine aK λO=>?_;have j:n∉naG s:=λz=>O ((bQ4 hs).mp z);exact d n (ao.mpr ⟨na,by simp[j]⟩) n (ao.mpr ⟨nb,by simp[j]⟩) rfl
 ·intro a b Y U d x L y J e;subst e;obtain⟨G,D⟩:=ao.mp L;obtain⟨B,_⟩:=ao.mp J
  have:x∉naG s:=by simpa using D
  exact this ((bQ4 hs).mpr (d x G B))
theorem aXb{s:List (List β)}(hn:∀o∈s,o.Nodup):(coG s).isSome=true↔2<=s.length/\s.Nodup/\Sun s:=by
 unfold coG
 by_cases h:s.length<2\/¬ s.Nodup
 ·rw[if_pos h];simp only[Option.isSome_none,aJ,false_iff];rintro⟨h1,h2,_⟩;rcases h with h|h
  ·lia
  ·exact h h2
 ·rw[if_neg h];have h2:=λz=>h (.inl z);have nd:=Classical.not_not.mp λz=>h (.inr z);have hs:s≠[]:=by rintro rfl;simp at h2
  have hi:=cXv hs hn
  by_cases hl:(lfG s).Nodup
  ·rw[if_pos hl];simp only[jt,true_iff];exact⟨by lia,nd,hi.mp hl⟩
  ·rw[if_neg hl];simp only[Option.isSome_none,aJ,false_iff];rintro⟨_,_,d⟩;exact hl (hi.mpr d)
theorem bJ7{o:List β}(h:Sun (s++[o])):Sun s:=(dE.mp h).1.imp λd n na nb p j=>d n na nb p (cm _ j)
theorem sorted_eq(irr:∀a,¬ lt a a)(asy:∀a b,lt a b->¬ lt b a):∀{l m:List β},l.Pairwise lt->m.Pairwise lt->(∀n,n∈l↔n∈m)->l=m
 |[],[],_,_,_=>rfl
 |[],b::m,_,_,h=>by have:=(h b).mpr aj;simp at this
 |a::l,[],_,_,h=>by have:=(h a).mp aj;simp at this
 |a::l,b::m,hl,hm,h=>by
  obtain⟨D,B⟩:=aM.mp hl;obtain⟨mb,j⟩:=aM.mp hm;have e:a=b:=by
   rcases aw.mp ((h a).mp aj) with z|z
   ·exact z
   ·rcases aw.mp ((h b).mpr aj) with y|y
    ·exact y.symm
    ·exact absurd (mb a z) (asy _ _ (D b y))
  subst e
  congr 1
  refine sorted_eq irr asy B j λn=>⟨λd=>?_,λd=>?_⟩
  ·rcases aw.mp ((h n).mp (ak _ d)) with z|z
   ·subst z;exact absurd (D n d) (irr n)
   ·exact z
  ·rcases aw.mp ((h n).mpr (ak _ d)) with z|z
   ·subst z;exact absurd (mb n d) (irr n)
   ·exact z
def meG(a b:List β):List β:=a.filter λn=>decide (n∈b)
theorem mem_me{n:β}:n∈meG a b↔n∈a/\n∈b:=by unfold meG;rw[ao];simp
def laG(s:List (List β)):Option (List β):=match s with
 |a::b::_=>if s.Pairwise λother one=>meG one other=meG a b then some (meG a b) else none
 |_=>none
theorem eZi(irr:∀a,¬ lt a a)(asy:∀a b,lt a b->¬ lt b a){s:List (List β)}(h2:2<=s.length)(nd:s.Nodup)(hs:∀o∈s,o.Pairwise lt):laG s=coG s:=by
 classical
 have d:s≠[]:=by rintro rfl;simp at h2
 have hnd:=λo Y=>(hs o Y).imp (λ{x y} (h:lt x y) (e:x=y)=>irr y (e▸h));obtain⟨a,b,r,rfl⟩:∃a b r,s=a::b::r:=by
  match s,h2 with
  |a::b::r,_=>exact⟨a,b,r,rfl⟩
 have B:∀x∈a::b::r,∀y,(meG x y).Pairwise lt:=λx N y=>(hs x N).filter _;have hco:coG (a::b::r)=if Sun (a::b::r) then some (naG (a::b::r)) else none:=by
  unfold coG;have Z:¬ ((a::b::r).length<2\/¬ (a::b::r).Nodup):=λz=>z.elim (λz=>by simp only[aG] at z;lia) λz=>z nd
  rw[if_neg Z]
  have:=cXv d hnd
  by_cases h:Sun (a::b::r)
  ·rw[if_pos h,if_pos (this.mpr h)]
  ·rw[if_neg h,if_neg λz=>h (this.mp z)]
 rw[hco];show(if (a::b::r).Pairwise (λother one=>meG one other=meG a b) then some (meG a b) else none)=_
 have L:Sun (a::b::r)->meG a b=naG (a::b::r):=λh=>by
  refine sorted_eq irr asy (B a aj b) ((hs a aj).filter _) λn=>?_;rw[mem_me,bQ4 d];refine⟨λ⟨na,nb⟩=>(aM.mp h).1 b aj n na nb,λz=>⟨z a aj,z b (ak _ aj)⟩⟩
 have iff:(a::b::r).Pairwise (λother one=>meG one other=meG a b)↔Sun (a::b::r):=by
  constructor
  ·intro h;refine h.imp_of_mem λ{x y} N U j n nx O o Y=>?_;have hn:=j▸mem_me.mpr ⟨O,nx⟩;have all:∀u∈a::b::r,∀v∈a::b::r,u≠v->n∈u/\n∈v:=by
    have sym:∀{l:List (List β)},l.Pairwise (λother one=>meG one other=meG a b)->∀u∈l,∀v∈l,u≠v->n∈u/\n∈v:=by
     intro l hl
     induction hl with
     |nil=>intro u hu;cases hu
     |@cons p l hp _ ih =>
      intro u hu v hv d;rcases aw.mp hu with eu|G <;> rcases aw.mp hv with ev|D
      ·exact absurd (eu.trans ev.symm) d
      ·have:=mem_me.mp ((hp v D).symm▸hn);rw[eu];exact⟨this.2,this.1⟩
      ·have:=mem_me.mp ((hp u G).symm▸hn);rw[ev];exact this
      ·exact ih u G v D d
    exact sym h
   have nab:a≠b:=λe=>(bA.mp nd).1 (e▸aj)
   by_cases J:o=a
   ·rw[J];exact(mem_me.mp hn).1
   ·exact(all o Y a aj J).1
  ·intro h;refine h.imp_of_mem λ{x y} N U j=>?_;refine sorted_eq irr asy (B y U x) (B a aj b) λn=>?_;rw[mem_me,L h,bQ4 d];exact⟨λ⟨O,nx⟩=>j n nx O,λz=>⟨z y U,z x N⟩⟩
 by_cases h:Sun (a::b::r)
 ·rw[if_pos h,if_pos (iff.mpr h),L h]
 ·rw[if_neg h,if_neg λz=>h (iff.mp z)]
end Toy
namespace Toy
variable{α β:Type}
theorem ch_map(f:α->β):∀(l:List α) (k:Nat),ch (l.map f) k=(ch l k).map λs=>s.map f
 |[],0=>rfl
 |[],k+1=>rfl
 |x::l,0=>by rw[aQp,aQp];rfl
 |x::l,k+1=>by
  rw[a8,aQl,aQl,ch_map f l k,ch_map f l (k+1),bo,bi,bi]
  rfl
end Toy
namespace L2
open PySem
abbrev Srt(t:List Str):Prop:=t.Pairwise λa b=>HT.ltS a b=true
abbrev SrtT(ts:List (List Str)):Prop:=ts.Pairwise λa b=>HT.lexS a b=true
theorem Srt.ext(hl:Srt l)(hm:Srt m)(h:∀n,n∈l↔n∈m):l=m :=
 Toy.sorted_eq (λa=>by rw[HT.ltS_ir];simp) (λa b h=>by rw[HT.ltS_as h];simp) hl hm h
theorem SrtT.ext(hl:SrtT l)(hm:SrtT m)(h:∀n,n∈l↔n∈m):l=m :=
 Toy.sorted_eq (λa=>by rw[aZ6];simp) (λa b h=>by rw[HT.lexS_as h];simp) hl hm h
theorem Srt.nodup(h:Srt t):t.Nodup:=h.imp λ{a b} h e=>by subst e;rw[HT.ltS_ir] at h;cases h
theorem SrtT.nodup(h:SrtT t):t.Nodup:=h.imp λ{a b} h e=>by subst e;rw[aZ6] at h;cases h
theorem eJ0(nd:t.Nodup)(h:t.Pairwise λx y=>leS x y=true):Srt t:=by
 induction t with
 |nil=>exact .nil
 |cons a t j =>
  rw[aM] at h;rw[bA] at nd;refine aM.mpr ⟨λb d=>?_,j nd.2 h.2⟩
  have:=h.1 b d
  unfold leS at this;rw[cY] at this;exact HT.ltS_tot this λe=>nd.1 (by rw[<- e];exact d)
theorem dJ1(nd:t.Nodup)(h:t.Pairwise λx y=>leT x y=true):SrtT t:=by
 induction t with
 |nil=>exact .nil
 |cons a t j =>
  rw[aM] at h;rw[bA] at nd;refine aM.mpr ⟨λb d=>?_,j nd.2 h.2⟩
  have:=h.1 b d
  unfold leT at this;rw[cY] at this;exact HT.lexS_tot this λe=>nd.1 (by rw[<- e];exact d)
theorem dJ2(nd:l.Nodup):Srt (srS l):=eJ0 ((aZr l).nodup_iff.mpr nd) (bX8 l)
theorem bJ8(nd:l.Nodup):SrtT (srT l):=dJ1 ((aXp l).nodup_iff.mpr nd) (cXk l)
theorem dJ3:x∈srS l↔x∈l:=(aZr l).mem_iff
theorem cZk:x∈srT l↔x∈l:=(aXp l).mem_iff
def dd{α:Type}[DecidableEq α]:List α->List α
 |[]=>[]
 |x::xs=>if x∈xs then dd xs else x::dd xs
theorem mem_dd{α:Type}[DecidableEq α]{x:α}:∀{l:List α},x∈dd l↔x∈l
 |[]=>Iff.rfl
 |y::l=>by
  unfold dd
  split
  ·next h =>
   rw[mem_dd,aw];exact⟨.inr,λz=>z.elim (λe=>by rw[e];exact h) id⟩
  ·rw[aw,aw,mem_dd]
theorem bJ9{α:Type}[DecidableEq α]:∀l:List α,(dd l).Nodup
 |[]=>dM
 |y::l=>by
  unfold dd
  split
  ·exact bJ9 l
  ·next h=>exact bA.mpr ⟨λz=>h (mem_dd.mp z),bJ9 l⟩
def nms(ts:List (List Str)):List Str:=srS (dd ts.flatten)
theorem fX5(ts:List (List Str)):Srt (nms ts):=dJ2 (bJ9 _)
theorem mem_nms:x∈nms ts↔∃t∈ts,x∈t:=by
 unfold nms;rw[dJ3,mem_dd,de]
def mts{α:Type}[DecidableEq α](one row:List α):Bool:=row.any λd=>decide (d∈one)
def has{α:Type}[DecidableEq α](one row:List α):Bool:=row.all λd=>decide (d∈one)
theorem mts_iff{α:Type}[DecidableEq α]{one row:List α}:mts one row=true↔∃x∈row,x∈one:=by unfold mts;simp
theorem has_iff{α:Type}[DecidableEq α]{one row:List α}:has one row=true↔∀x∈row,x∈one:=by unfold has;simp
def wo{α:Type}[DecidableEq α](one row:List α):List α:=one.filter λd=>!decide (d∈row)
theorem mem_wo{α:Type}[DecidableEq α]{one row:List α}{x:α}:x∈wo one row↔x∈one/\x∉row:=by unfold wo;rw[ao];simp
end L2
set_option maxHeartbeats 4000000
namespace L2
open PySem
structure Enc(α:Type) where
 e:α->D
 inj:∀{x y},e x=e y->x=y
 pl:∀x,plain (e x)=true
 dep:Nat
 ok:∀n x y,dep<=n->okE n (e x) (e y)=true
 lt:α->α->Bool
 okl:∀n x y,dep<=n->okL n (e x) (e y)=true
 lte:∀n x y,dep<=n->ltN n (e x) (e y)=lt x y
def lexG{α:Type}[DecidableEq α](lt:α->α->Bool):List α->List α->Bool
 |[],[]=>false
 |[],_::_=>true
 |_::_,[]=>false
 |x::xs,y::ys=>if x=y then lexG lt xs ys else lt x y
def strE:Enc Str where
 e:=D.str
 inj:=λh=>by injection h
 pl:=λ_=>rfl
 dep:=0
 ok:=λn x y _=>by cases n <;> rfl
 lt:=HT.ltS
 okl:=λn x y _=>by cases n <;> rfl
 lte:=λn x y _=>by cases n <;> rfl
def tupE{α:Type}[DecidableEq α](E:Enc α):Enc (List α) where
 e:=λl=>.tup (l.map E.e)
 inj:=λ{x y} h=>by
  injection h with h
  exact map_inj (λa b e=>E.inj e) h
 pl:=λl=>by
  show aZ2 (l.map E.e)=true
  induction l with
  |nil=>rfl
  |cons x l ih=>show(plain (E.e x)&&aZ2 (l.map E.e))=true;rw[E.pl,ih];rfl
 dep:=E.dep+1
 ok:=λn x y h=>by
  obtain⟨m,rfl⟩:∃m,n=m+1:=⟨n-1,by lia⟩
  show((x.map E.e).zip (y.map E.e)).all (λp=>okE m p.1 p.2)=true;rw[List.zip_map,dr,ba];exact λp _=>E.ok m p.1 p.2 (by lia)
 lt:=lexG E.lt
 okl:=λn x y h=>by
  obtain⟨m,rfl⟩:∃m,n=m+1:=⟨n-1,by lia⟩
  show okLs (okL m) m (x.map E.e) (y.map E.e)=true
  induction x generalizing y with
  |nil=>cases y <;> rfl
  |cons a x ih =>
   cases y with
   |nil=>rfl
   |cons b y =>
    show(okE m (E.e a) (E.e b)&&(if E.e a=E.e b then okLs (okL m) m (x.map E.e) (y.map E.e) else okL m (E.e a) (E.e b)))=true
    rw[E.ok m a b (by lia),lh]
    split
    ·exact ih y
    ·exact E.okl m a b (by lia)
 lte:=λn x y h=>by
  obtain⟨m,rfl⟩:∃m,n=m+1:=⟨n-1,by lia⟩
  show lexN (ltN m) (x.map E.e) (y.map E.e)=lexG E.lt x y
  induction x generalizing y with
  |nil=>cases y <;> rfl
  |cons a x ih =>
   cases y with
   |nil=>rfl
   |cons b y =>
    show(if E.e a=E.e b then lexN (ltN m) (x.map E.e) (y.map E.e) else ltN m (E.e a) (E.e b))=if a=b then lexG E.lt x y else E.lt a b
    by_cases hab:a=b
    ·subst hab;rw[if_pos rfl,if_pos rfl];exact ih y
    ·rw[if_neg λz=>hab (E.inj z),if_neg hab];exact E.lte m a b (by lia)
theorem gX3:lexG HT.ltS=HT.lexS:=by
 funext x y
 induction x generalizing y with
 |nil=>cases y <;> rfl
 |cons a x d =>
  cases y with
  |nil=>rfl
  |cons b y =>
   show(if a=b then lexG HT.ltS x y else HT.ltS a b)=if a=b then HT.lexS x y else HT.ltS a b
   rw[d]
abbrev setE:Enc (List Str):=tupE strE
abbrev flE:Enc (List (List Str)):=tupE setE
theorem cZl:setE.lt=HT.lexS:=gX3
section
variable{α:Type}[DecidableEq α]{E:Enc α}
theorem cXw:∀l:List α,aZ2 (l.map E.e)=true
 |[]=>rfl
 |x::l=>by show(plain (E.e x)&&aZ2 (l.map E.e))=true;rw[E.pl,cXw l];rfl
theorem hQc{l:List α}:E.e x∈l.map E.e↔x∈l:=by
 rw[av];exact⟨λ⟨y,h,e⟩=>by rw[<- E.inj e];exact h,λh=>⟨x,h,rfl⟩⟩
theorem in_e{neg:Bool}{x:α}{l:List α}[dm:Decidable (x∈l)]{d:D}{S:Sto}{Q:DK}(hE:E.dep<=8)(hd:sqIs S d (l.map E.e))(q:Q (.bl (if neg then !decide (x∈l) else decide (x∈l))) S):inD neg (E.e x) d S Q:=by
 refine⟨l.map E.e,hd,cXw l,by rw[dr,ba];exact λy _=>E.ok 8 y x hE,?_⟩
 rw[decide_eq_decide.mpr (hQc)];exact q
theorem in_t{neg:Bool}{x:α}{l:List α}[dm:Decidable (x∈l)]{d:D}{S:Sto}{Q:Bool->Sto->Prop}(hE:E.dep<=8)(hd:sqIs S d (l.map E.e))(q:Q (if neg then !decide (x∈l) else decide (x∈l)) S):inD neg (E.e x) d S (λd S1=>∃b,d=.bl b/\Q b S1):=in_e hE hd ⟨_,rfl,q⟩
end
def fzIs(d:D)(xs:List D):Prop:=d=.tup xs\/d=.lst xs
theorem fzIs.sq(h:fzIs d xs):sqIs S d xs:=by rcases h with rfl|rfl <;> rfl
end L2
namespace Toy
open PySem L2
def opD:Option (List Str)->D
 |none=>.non
 |some t=>tupS t
def bQf:SpD:=λds S Q=>∃(α:Type) (_:DecidableEq α) (E:Enc α) (one row:List α) (d1 d2:D),ds=[d1,d2]/\E.dep<=4/\fzIs d1 (one.map E.e)/\fzIs d2 (row.map E.e)/\row.length<=9999/\Q (.bl (mts one row)) S
def bXc:SpD:=λds S Q=>∃(α:Type) (_:DecidableEq α) (E:Enc α) (one row:List α) (d1 d2:D),ds=[d1,d2]/\E.dep<=4/\fzIs d1 (one.map E.e)/\fzIs d2 (row.map E.e)/\row.length<=9999/\Q (.bl (has one row)) S
def aQj:SpD:=λds S Q=>∃(α:Type) (_:DecidableEq α) (E:Enc α) (one row:List α) (d1 d2:D),ds=[d1,d2]/\E.dep<=4/\fzIs d1 (one.map E.e)/\fzIs d2 (row.map E.e)/\one.length<=9999/\Q (.tup ((wo one row).map E.e)) S
def aJu:SpD:=λds S Q=>∃one row:List Str,ds=[tupS one,tupS row]/\one.length<=9999/\Q (tupS (one.filter λd=>decide (d∈row))) S
end Toy
namespace L2
open PySem
def aQm{α β:Type}(f:α->Option β):List α->Option β
 |[]=>none
 |x::xs=>match f x with
  |some y=>some y
  |none=>aQm f xs
def eJ1:Str:=aL ""
theorem fX6{xs:List α}(h:xs≠[])(z:α):atI xs (-1)=some (xs.getLastD z):=by
 rw[gJl xs h];cases xs with
 |nil=>exact absurd rfl h
 |cons x xs=>rw[jB,List.getLast_eq_getLastD]
theorem cXx{f:α->Option β}{y:β}:∀{l:List α}{i:Nat}{x:α},l[i]?=some x->f x=some y->(∀(j:Nat) z,j<i->l[j]?=some z->f z=none)->aQm f l=some y
 |[],i,x,h,_,_=>by simp at h
 |a::l,0,x,h,B,_=>by
  simp at h;subst h;unfold aQm;rw[B]
 |a::l,i+1,x,h,B,d=>by
  unfold aQm;rw[d 0 a (by lia) rfl]
  exact cXx (by simpa using h) B λj z G D=>d (j+1) z (by lia) (by simpa using D)
theorem cXy{f:α->Option β}:∀{l:List α},(∀(j:Nat) z,l[j]?=some z->f z=none)->aQm f l=none
 |[],_=>rfl
 |a::l,h=>by
  unfold aQm;rw[h 0 a rfl];exact cXy λj z d=>h (j+1) z (by simpa using d)
theorem okT(t:List Str)(ts:List (List Str)):((ts.map tupS).all λy=>okE 8 y (tupS t))=true:=by rw[dr,ba];exact λx _=>bJ4 x t
theorem bQg(xs:List D)(i:Nat):cutD xs (some (i+1)) none=xs.drop (i+1):=by
 rcases bU i xs.length with h|h
 ·have e:cutD xs (some (i+1)) none=cutD (xs.map id) (some (((i+1:Nat)))) none:=by rw[List.map_id];rfl
  rw[e,aJb,HT.sIx_none,HT.sIx_nat,eV (by lia),cA (by rw[bQ];exact am _),List.map_id]
 ·have e:cutD xs (some (i+1)) none=cutD (xs.map id) (some (((i+1:Nat)))) none:=by rw[List.map_id];rfl
  rw[e,aJb,HT.sIx_none,HT.sIx_nat,fR (by lia),fR (by lia),List.take_nil]
  rfl
end L2
namespace Toy
open PySem L2
def eZj(n:Nat):SpD:=λds S Q=>∃(xs:List D) (m:Nat),ds=[.tup xs,.int m]/\m<n/\xs.length<=20/\Q (.lst ((ch xs m).map D.tup)) S
def aXc:SpD:=λds S Q=>∃ts:List (List Str),ds=[.tup (ts.map tupS)]/\ts≠[]/\ts.length<=99/\(∀t∈ts,t.length<=99)/\Q (tupS (naG ts)) S
def aZg:SpD:=λds S Q=>∃ts:List (List Str),ds=[.tup (ts.map tupS)]/\ts.length<=99/\(∀t∈ts,t.length<=99)/\(lfG ts).length<=99/\Q (opD (coG ts)) S
end Toy
namespace L2
open PySem
open Toy (ch aQl aQp ch_mem aZd coG naG lfG meG laG Sun aXb bJ7 eZi flw cQj bQ4 mem_me)
theorem dJ4{α:Type}[DecidableEq α]{lt:α->α->Bool}(irr:∀a,lt a a=false):∀{N:List α}(k:Nat),N.Pairwise (λa b=>lt a b=true)->(ch N k).Pairwise λa b=>lexG lt a b=true
 |N,0,_=>by rw[aQp];exact bI _ _
 |[],k+1,_=>d9
 |a::N,k+1,D=>by
  have d:=aM.mp D;rw[aQl];refine dE.mpr ⟨?_,dJ4 irr (k+1) d.2,?_⟩
  ·rw[bu];refine(dJ4 irr k d.2).imp λ{x y} h=>?_;show(if a=a then lexG lt x y else lt a a)=true
   rw[if_pos rfl];exact h
  ·intro x z y j;obtain⟨r,G,rfl⟩:=av.mp z;obtain⟨h1,h2⟩:=ch_mem j;cases y with
   |nil=>simp at h1
   |cons b y =>
    have B:=h2.subset aj;have hab:=d.1 b B;show(if a=b then lexG lt r y else lt a b)=true
    rw[if_neg (by rintro rfl;rw[irr] at hab;cases hab)]
    exact hab
def flO(ts:List (List Str))(m:Nat):List (List (List Str)):=(ch ts m).filter λs=>(coG s).isSome
theorem cZm(h:SrtT ts):ts.Pairwise λa b=>HT.lexS a b=true/\HT.lexS b a=false:=h.imp λh=>⟨h,HT.lexS_as h⟩
theorem dJ5(hs:SrtT ts)(he:∀t∈ts,Srt t)(j:Nat):flw HT.lexS [] (λs=>(coG s).isSome) ts j=flO ts (j+2):=by
 refine cQj (cZm hs) aZ6 (λs h=>?_) (λs o h2 sub ok=>?_) j
 ·obtain⟨h1,h2⟩:=ch_mem h;refine(aXb λo d=>(he o (h2.subset d)).nodup).mpr ⟨by lia,hs.nodup.sublist h2,?_⟩
  match s,h1 with
  |[a,b],_ =>
   refine aM.mpr ⟨λy z n na nb o d=>?_,bI _ _⟩;rw[aF.mp z] at nb;rcases aw.mp d with rfl|d
   ·exact na
   ·rw[aF.mp d];exact nb
 ·have nd:=λo' d=>(he o' (sub.subset d)).nodup;obtain⟨_,D,B⟩:=(aXb nd).mp ok;exact(aXb λo' d=>nd o' (cm _ d)).mpr ⟨h2,(bY.mp D).1,bJ7 B⟩
theorem mem_flO:s∈flO ts m↔s.length=m/\s.Sublist ts/\(coG s).isSome=true:=by
 unfold flO;rw[ao];constructor
 ·rintro⟨h1,h2⟩;exact⟨(ch_mem h1).1,(ch_mem h1).2,h2⟩
 ·rintro⟨rfl,h2,d⟩;exact⟨aZd h2,d⟩
theorem bXd{ts:List (List Str)}(hl:ts.length<=a)(he:∀t∈ts,t.length<=b):(lfG ts).length<=a*b:=by
 have gen:∀l:List (List Str),(∀t∈l,t.length<=b)->(l.flatMap λo=>o.filter λd=>!decide (d∈naG ts)).length<=l.length*b:=by
  intro l
  induction l with
  |nil=>intro _;simp
  |cons t l j =>
   intro h;rw[cB,ax,aG,Nat.succ_mul];have h1:=bv (λd=>!decide (d∈naG ts)) t;have h2:=h t aj;have B:=j λt z=>h t (ak _ z);lia
 exact aH (gen ts he) (Nat.mul_le_mul_right b hl)
end L2
namespace Toy
open PySem L2
def aJc:SpD:=λds S Q=>∃(ts:List (List Str)) (m:Nat),ds=[.tup (ts.map tupS),.int m]/\2<=m/\m<=6/\SrtT ts/\ts.length<=15/\(∀t∈ts,Srt t/\t.length<=12)/\Q (.lst ((flO ts m).map flE.e)) S
end Toy
namespace L2
open PySem
open Toy (ch aQl aQp ch_mem aZd coG naG lfG meG laG Sun aXb bJ7 eZi flw cQj bQ4 mem_me)
end L2
namespace L2
open PySem
open Toy (ch aQl aQp ch_mem aZd coG naG lfG meG laG Sun aXb bJ7 eZi flw cQj bQ4 mem_me)
theorem me_comm(ha:Srt a)(hb:Srt b):meG a b=meG b a:=Srt.ext (bE _ ha) (bE _ hb) λn=>by rw[mem_me,mem_me];exact⟨λh=>⟨h.2,h.1⟩,λh=>⟨h.2,h.1⟩⟩
def Fm(s:List (List Str))(c:List Str):Prop:=s.Pairwise λa b=>meG a b=c
theorem dQ5(h2:2<=s.length)(nd:s.Nodup)(hs:∀o∈s,Srt o){c:List Str}:coG s=some c↔Fm s c:=by
 rw[<- eZi (λa=>by rw[HT.ltS_ir];simp) (λa b h=>by rw[HT.ltS_as h];simp) h2 nd hs]
 match s,h2,hs with
 |a::b::r,_,hs =>
  have eq:∀d:List Str,((a::b::r).Pairwise λother one=>meG one other=d)↔Fm (a::b::r) d:=λd=>by
   constructor
   ·intro h;refine be ?_ h;intro x y z j e;rw[me_comm (hs x z) (hs y j)];exact e
   ·intro h;refine be ?_ h;intro x y z j e;rw[me_comm (hs y j) (hs x z)];exact e
  have B:∀d,Fm (a::b::r) d->meG a b=d:=λd h=>(aM.mp h).1 b aj;show(if (a::b::r).Pairwise (λother one=>meG one other=meG a b) then some (meG a b) else none)=some c↔_
  constructor
  ·intro h
   split at h
   ·next D=>cases h;exact(eq _).mp D
   ·cases h
  ·intro h
   have:=B c h
   subst this;rw[if_pos ((eq _).mpr h)]
end L2
namespace Toy
open PySem L2
end Toy
namespace L2
open PySem
open Toy (ch ch_mem aZd bXa meG opD)
end L2
namespace L2
open PySem
theorem eZk(h:1<=x.length):HT.ltS eJ1 x=true:=by
 refine decide_eq_true ?_;obtain⟨⟨l⟩⟩:=x;cases l with
 |nil=>exact absurd h (by decide)
 |cons c l =>
  exact List.nil_lt_cons _ _
end L2
namespace Toy
open PySem L2
structure CollB(most:Nat)(ts:List (List Str)):Prop where
 srt:SrtT ts
 each:∀t∈ts,Srt t/\t.length<=6
 len:ts.length<=most
 nms:(nms ts).length<=12
 ne:∀x∈L2.nms ts,HT.ltS eJ1 x=true
theorem CollB.of(hn:names.length<=12)(h1:∀n∈names,1<=n.length)(nd:ts.Nodup)(pw:ts.Pairwise λx y=>leT x y=true)(hs:∀t∈ts,SetOf names 6 t)(hl:ts.length<=most):CollB most ts where
 srt:=dJ1 nd pw
 each:=λt j=>⟨eJ0 (hs t j).1 (hs t j).2.1,(hs t j).2.2.2⟩
 len:=hl
 nms:=by
  refine aH ((fX5 ts).nodup.length_le_of_subset λx z=>?_) hn;obtain⟨t,j,d⟩:=mem_nms.mp z;exact(hs t j).2.2.1 x d
 ne:=λx z=>by
  obtain⟨t,j,d⟩:=mem_nms.mp z;exact eZk (h1 x ((hs t j).2.2.1 x d))
end Toy
namespace L2
open PySem
open Toy (ch ch_mem aZd coG naG lfG meG bQ4 mem_me)
end L2
namespace L2
open PySem
open Toy (meG mem_me)
end L2
namespace L2
open PySem
open Toy
theorem fX7(d:D)(ds:List D):cutD (d::ds) none (some 1)=[d]:=by
 show((d::ds).drop 0).take (HT.sIx (d::ds).length (d::ds).length (some ((1:Nat)))-0)=[d];rw[HT.sIx_nat,eV (by simp)]
 rfl
theorem eZl(d:D)(ds:List D):cutD (d::ds) (some 1) none=ds:=bQg (d::ds) 0
theorem hQd{P:Prop}[Decidable P](h:P):D.bl (if false=true then !decide P else decide P)=D.bl true:=by rw[decide_eq_true h];rfl
theorem eZm{P:Prop}[Decidable P](h:P):D.bl (if true=true then !decide P else decide P)=D.bl false:=by rw[decide_eq_true h];rfl
end L2
set_option maxHeartbeats 1000000
namespace Toy
open PySem L2
abbrev s_law_few_sets:Stmt:=top 31
theorem sc_law_few_sets:FnScope ["pile", "most", "names", "way", "sizes", "found", "turn", "core", "left", "petal", "some", "one"] ["pile", "most"] (aQ5 s_law_few_sets):=fsc
def aXd:SpD:=λds S Q=>∃(a:Addr) (most:Nat),ds=[.ref a,.int most]/\Pile S a/\most<=14/\∀ts S',CollB most ts->Off a S S'->Pile S' a->Q (.tup (ts.map tupS)) S'
section
variable{P:aA}{w:aO}{K:ar}{mg:Str->Option ad}{base:bd}{pt cc:Addr}
theorem bZa(T:Tx K mg "_law_few_sets" s_law_few_sets)(B:Bs mg)(d_law_next:Df P w K mg base 3 "_law_next" ["pile", "most"] (spU K aQu))(d_law_names:Df P w K mg base 3 "_law_names" ["pile", "many"] (spU K bQ3))(d_law_set:Df P w K mg base 3 "_law_set" ["pile", "names", "many"] (spU K aJs))(d_law_collection:Df P w K mg base 3 "_law_collection" ["pile", "names", "count", "sizes"] (spU K aZx)):Df P w K mg base 4 "_law_few_sets" ["pile", "most"] (spU K aXd):=by
 refine aZ1 T sc_law_few_sets (λF=>F.binds λ_ _ _ _ _ _=>us2 λ_ _=>rfl) ?_ λf cdv A outer s H E O=>⟨_,(aQ2 (aQb (i:=2) sc_law_few_sets.nd rfl (aS rfl) (aQ3 d_law_names O rfl (aQ0 (dv 0) (aQ0 (aQr (k:=false) aQ6 (aQ3 d_law_next O rfl (aQ0 (dv 0) (aQ0 aQ6 aQ1)))) aQ1))))
  (aQ2 (aQb (i:=3) sc_law_few_sets.nd rfl (aS rfl) (aQ3 d_law_next O rfl (aQ0 (dv 0) (aQ0 aQ6 aQ1))))
  (aQ2 (aQz (cQ6 O (dv 3) aQ6) (aQ2 (aQb (i:=4) sc_law_few_sets.nd rfl (aS rfl) (e_ix (aX7 (b:=false) (aQ0 (aX7 (b:=false) (aQ0 (aQr (k:=false) aQ6 (aQ3 d_law_next O rfl (aQ0 (dv 0) (aQ0 aQ6 aQ1)))) aQ1)) (aQ0 (aX7 (b:=false) (aQ0 aQ6 (aQ0 aQ6 (aQ0 aQ6 aQ1)))) (aQ0 (aX7 (b:=false) (aQ0 aQ6 (aQ0 aQ6 (aQ0 aQ6 (aQ0 aQ6 (aQ0 aQ6 (aQ0 aQ6 (aQ0 aQ6 aQ1)))))))) (aQ0 (aX7 (b:=false) (aQ0 aQ6 aQ1)) aQ1))))) (dv 3)))
  (aQ4 (aQ8 (aQ3 d_law_collection O rfl (aQ0 (dv 0) (aQ0 (dv 2) (aQ0 (e_ix (aX7 (b:=false) (aQ0 (aQ3 d_law_next O rfl (aQ0 (dv 0) (aQ0 (aQr (k:=false) (dv 1) aQ6) aQ1))) (aQ0 (dv 1) aQ1))) (aQ3 d_law_next O rfl (aQ0 (dv 0) (aQ0 aQ6 aQ1)))) (aQ0 (dv 4) aQ1)))))))) aQh)
  (aQ2 (aQb (i:=5) sc_law_few_sets.nd rfl (aS rfl) (aX7 (b:=true) aQ1))
  (aQ2 (aX9 cS rfl (aZi rfl B.range (aQ0 (aQr (k:=false) aQ6 (aQ3 d_law_next O rfl (aQ0 (dv 0) (aQ0 aQ6 aQ1)))) aQ1)) (aZ5 (i:=6) sc_law_few_sets.nd rfl (aS rfl)) (aQ2 (aQb (i:=7) sc_law_few_sets.nd rfl (fQ rfl) (aQ3 d_law_set O rfl (aQ0 (dv 0) (aQ0 (dv 2) (aQ0 (aQ3 d_law_next O rfl (aQ0 (dv 0) (aQ0 aQ6 aQ1))) aQ1)))))
  (aQ2 (aQb (i:=8) sc_law_few_sets.nd rfl (fQ rfl) (aQq (N':=["name", "core"]) (oc:=none) (b:=true) [0] [] rfl sc_law_few_sets.nd (λ_ _ _=>aQc ..) (.own (.cap (i:=7) rfl (by decide +kernel) .nil)) (aQf rfl) (aQv (dv 2)) (cg_name (i:=0)) (λ_ _ _ _ _=>aQa (i:=0) (nd_ ["name", "core"]) rfl (aS rfl) (.inr rfl)) (λ_ _ _ _ _=>aZj (by exact(cQ5 O (dv 0) (dv 1)))) aQi (λ_ _ _ _ _ _=>aQg rfl (by exact PD.o (dv 0)))))
  (aQ4 (aX9 cS rfl (aZi rfl B.range (aQ0 (aQr (k:=false) aQ6 (aQ3 d_law_next O rfl (aQ0 (dv 0) (aQ0 aQ6 aQ1)))) aQ1)) (aZ5 (i:=9) sc_law_few_sets.nd rfl (aS rfl)) (aQ2 (aJ1 (i:=10) rfl (aS rfl) (N':=["k", "left", "pile"]) (oc:=none) (b:=false) [0] [] rfl sc_law_few_sets.nd (λ_ _ _=>aQc ..) (.own (.cap (i:=8) rfl (by decide +kernel) (.cap (i:=0) rfl (by decide +kernel) .nil))) (aQf rfl) (aZi rfl B.range (aQ0 (gZ3 rfl B.min (aQ0 (aQs rfl B.len (aQ0 (dv 8) aQ1)) (aQ0 (aQ3 d_law_next O rfl (aQ0 (dv 0) (aQ0 aQ6 aQ1))) aQ1))) aQ1)) (cg_name (i:=0)) (λ_ _ _ _ _=>aQa (i:=0) (nd_ ["k", "left", "pile"]) rfl (aS rfl) (.inr rfl)) (λ_ _ _ _ _=>aQk) aQi (λ_ _ _ _ _ _=>aQg rfl (by exact PD.o (cZc (dv 1) (aQ0 (aQ3 d_law_next O rfl (aQ0 (dv 2) (aQ0 (aQs rfl B.len (aQ0 (dv 1) aQ1)) aQ1))) aQ1)))))
  (aQ2 (aQb (i:=11) sc_law_few_sets.nd rfl (aS rfl) (aZ3 rfl B.tuple (aQ0 (aZ7 (b:=false) O rfl B.sorted (aQ0 (aQr (k:=false) (cQ9 (b:=false) rfl B.list (aQ0 (dv 7) aQ1)) (dv 10)) aQ1)) aQ1)))
  (aQ4 (aQz (PWD.pt (cQ8 (cQ5 O (dv 11) (dv 5)) (bZ1 (cQ6 O (aQs rfl B.len (aQ0 (dv 5) aQ1)) (dv 1))))) (aQ4 (bZ2 (cXj (dv 5) (aQ0 (dv 11) aQ1)))) aQh)))))))))
  (aQ4 (aQ8 (aZ3 rfl B.tuple (aQ0 (aZ7 (b:=false) O rfl B.sorted (aQ0 (dv 5) aQ1)) aQ1))))))))),?_⟩
 ·rintro ds S Q ⟨a,most,rfl,_⟩;rfl
 ·rintro ds S Q ⟨a,most,rfl,dk,hm,q⟩;have z:∀n:Nat,n<=99->n<=sizeLine:=λn h=>aQd (by omega)
  refine⟨a,11,rfl,dk,by decide,by decide,λr1 S1 r10 r11 off1 dk1=>?_⟩
  obtain⟨k,hk⟩:∃k:Nat,2+r1=(k:Int):=⟨(2+r1).toNat,by omega⟩
  refine⟨a,k,congrArg (λz:Int=>[D.ref a,.int z]) hk,dk1,by omega,λnames S2 nd pw hnl ne off2 dk2=>?_⟩
  refine⟨a,6,rfl,dk2,by decide,by decide,λr2 S3 r20 r21 off3 dk3=>?_⟩
  have n12:names.length<=12:=by omega
  refine⟨_,rfl,ite2 (λc=>?_) λc=>?_⟩
  ·have w4:r2<4:=of_decide_eq_true c;refine⟨a,4,rfl,dk3,by decide,by decide,λr3 S4 r30 r31 off4 dk4=>?_⟩
   refine⟨z _ (by show 1<=99;decide),z _ (by show 3<=99;decide),z _ (by show 7<=99;decide),z _ (by show 1<=99;decide),z _ (by show 4<=99;decide),?_⟩
   obtain⟨d,hsz,sne,s99,s6⟩:∃d:List Nat,atI [D.lst [.int (1+r3)],.lst [.int 1,.int 2,.int 3],.lst [.int 0,.int 1,.int 2,.int 3,.int 4,.int 5,.int 6],.lst [.int 2]] r2=some (.lst (d.map λk=>.int (k:Nat)))/\d≠[]/\d.length<=99/\∀k∈d,k<=6:=by
    have h:r2=0\/r2=1\/r2=2\/r2=3:=by omega
    rcases h with rfl|rfl|rfl|rfl
    ·refine⟨[(1+r3).toNat],?_,by simp,by simp,λk hk=>by rw[aF.mp hk];omega⟩
     have e:((1+r3).toNat:Int)=1+r3:=by omega
     show some (D.lst [.int (1+r3)])=some (.lst [.int ((1+r3).toNat:Nat)]);rw[e]
    ·exact⟨[1,2,3],rfl,by simp,by simp,by decide⟩
    ·exact⟨[0,1,2,3,4,5,6],rfl,by simp,by simp,by decide⟩
    ·exact⟨[2],rfl,by simp,by simp,by decide⟩
   refine⟨_,_,rfl,hsz,?_⟩;refine⟨a,((most:Int)+1),rfl,dk4,by omega,by omega,λr4 S5 r40 r41 off5 dk5=>?_⟩
   refine⟨z _ (by show 2<=99;decide),a,2,rfl,dk5,by decide,by decide,λr5 S6 r50 r51 off6 dk6=>?_⟩
   obtain⟨c,hc,hcm⟩:∃c:Nat,atI [D.int r4,.int most] r5=some (.int (c:Nat))/\c<=most:=by
    have h:r5=0\/r5=1:=by omega
    rcases h with rfl|rfl
    ·refine⟨r4.toNat,?_,by omega⟩
     have e:((r4.toNat:Nat):Int)=r4:=by omega
     rw[e];rfl
    ·exact⟨most,rfl,am _⟩
   refine⟨_,_,rfl,hc,?_⟩;refine⟨a,names,c,d,6,rfl,dk6,nd,by omega,by omega,sne,s99,s6,by decide,λts S7 G tpw ht tl Y dk7=>aQ7 (q ts S7 (CollB.of (by omega) ne G tpw ht (by omega)) ?_ dk7)⟩
   exact off1.trans (off2.trans (off3.trans (off4.trans (off5.trans (off6.trans Y)))))
  ·refine⟨z _ (by decide),λp hp=>?_⟩
   have U:p≠a:=dk3.ne hp;have off03:Off a S S3:=off1.trans (off2.trans off3);have hpS:S p=none:=by rw[<- off03 p U];exact hp
   refine⟨a,3,rfl,dk3.supd U,by decide,by decide,λr3 S4 r30 r31 off4 dk4=>⟨⟨by omega,by omega⟩,?_⟩⟩
   have ext0:∀b o,b≠a->S b=some o->S4 b=some o:=λb o Z e=>by
    rw[off4 b Z,supd_ne (by rintro rfl;rw[hpS] at e;cases e),off03 b Z];exact e
   refine aZk (λi Γ S'=>∃(x6 x7 x8 x9 x10 x11:Option D) (ts:List (List Str)),Γ=[some (.ref a),some (.int most),some (tupS names),some (.int r2),none,some (.ref p),x6,x7,x8,x9,x10,x11]/\S' p=some (.lst (ts.map tupS))/\ts.length<=most/\ts.Nodup/\(∀t∈ts,SetOf names 6 t)/\Pile S' a/\∀b o,b≠a->S b=some o->S' b=some o) ⟨none,none,none,none,none,none,[],rfl,(off4 p U).trans supd_same,bN _,dM,by simp,dk4,ext0⟩ ?_ ?_
   ·rintro i x Γ S' N hx ⟨x6,x7,x8,x9,x10,x11,ts,rfl,hf,hl,G,L,dk',ext'⟩ hN;refine⟨trivial,a,4,rfl,dk',by decide,by decide,λr4 S5 r40 r41 off5 dk5=>?_⟩
    refine⟨a,names,r4.toNat,congrArg (λz:Int=>[D.ref a,tupS names,.int z]) (by omega),dk5,nd,by omega,by omega,λcore S6 hcore _ off6 dk6=>?_⟩
    refine⟨_,rfl,aQt (p:=λn=>!decide (n∈core)) (f:=D.str) (λn hn Q q=>in_t (neg:=true) (E:=strE) (by decide) rfl q) (λn hn _ Q q=>q) (z _ (by show 0+names.length<=_;omega)) ?_⟩
    rw[c9];intro lp hlp;have hla:lp≠a:=dk6.ne hlp;have hf6:S6 p=some (.lst (ts.map tupS)):=(off6 p U).trans ((off5 p U).trans hf);have hlpp:lp≠p:=by rintro rfl;rw[hf6] at hlp;cases hlp
    have ext6:∀b o,b≠a->S b=some o->S6 b=some o:=λb o Z e=>by rw[off6 b Z,off5 b Z];exact ext' b o Z e
    have lpS:S lp=none:=by
     cases h:S lp with
     |none=>rfl
     |some o=>rw[ext6 lp o hla h] at hlp;cases hlp
    have c3:core.length<=3:=by have:=hcore.2.2.2;omega
    generalize hls:names.filter (λn=>!decide (n∈core))=ls0;have lnd:ls0.Nodup:=hls▸bE _ nd;have lin:∀y∈ls0,y∈names/\y∉core:=λy hy=>by
     rw[<- hls] at hy;obtain⟨h1,h2⟩:=ao.mp hy;exact⟨h1,by simpa using h2⟩
    have ll:=hls▸aH (bv _ _) n12;refine⟨a,4,rfl,dk6.supd hla,by decide,by decide,λr5 S7 r50 r51 Y dk7=>⟨⟨by omega,by omega⟩,?_⟩⟩
    refine aZk (λj Γ S'=>∃(x9 x10 x11:Option D) (ts:List (List Str)) (ls:List Str),Γ=[some (.ref a),some (.int most),some (tupS names),some (.int r2),none,some (.ref p),some x,some (tupS core),some (.ref lp),x9,x10,x11]/\S' p=some (.lst (ts.map tupS))/\S' lp=some (.lst (ls.map D.str))/\ls.Nodup/\(∀y∈ls,y∈names/\y∉core)/\ls.length<=12/\ts.length<=most/\ts.Nodup/\(∀t∈ts,SetOf names 6 t)/\Pile S' a/\∀b o,b≠a->S b=some o->S' b=some o) ⟨_,_,_,ts,ls0,rfl,?_,?_,lnd,lin,ll,hl,G,L,dk7,λb o Z e=>?_⟩ ?_ ?_
    ·rw[Y p U,supd_ne (bX hlpp)];exact hf6
    ·rw[Y lp hla,supd_same]
    ·rw[Y b Z,supd_ne (by rintro rfl;rw[lpS] at e;cases e)];exact ext6 b o Z e
    ·rintro j y Γ S8 N2 hy ⟨x9,x10,x11,ts,ls,rfl,hf8,hl8,lnd,lin,ll,hl,G,L,dk8,ext8⟩ hN2;refine⟨trivial,_,hl8,a,3,rfl,dk8,by decide,by decide,λr6 S9 r60 r61 off9 dk9=>?_⟩
     obtain⟨m,hm',mm,mn⟩:∃m:Nat,(λi j:Int=>if j<i then j else i) ((ls.map D.str).length) r6=m/\m<=2/\m<=ls.length:=by
      rw[ae];show ∃m:Nat,(if r6<ls.length then r6 else ls.length)=m/\_
      split
      ·exact⟨r6.toNat,by omega,by omega,by omega⟩
      ·exact⟨ls.length,rfl,by omega,am _⟩
     refine⟨?_,?_⟩
     ·rw[hm'];exact⟨by omega,by omega⟩
     rw[hm',cr];refine cXu hla ((off9 lp hla).trans hl8) (by rw[ae];exact mn) (by rw[ae];omega) dk9 λvs us S10 pm hvl hus dk10 off10=>?_
     obtain⟨as,bs,rfl,rfl,pn⟩:=cQg dStr' (λ_=>rfl) pm;rw[ae] at hvl;have nab:=pn.nodup_iff.mpr lnd;have nda:=(bY.mp nab).1;have ndb:=(bY.mp nab).2.1;have J:=(off10 p U (bX hlpp)).trans ((off9 p U).trans hf8);have ain:=λy hy=>lin y (pn.mem_iff.mp (cm _ hy));have bin:=λy hy=>lin y (pn.mem_iff.mp (bq _ hy));have bl:bs.length<=12:=by have:=pn.length_eq;rw[ax] at this;omega
     have ext10:∀b o,b≠a->S b=some o->S10 b=some o:=λb o Z e=>by
      rw[off10 b Z (by rintro rfl;rw[lpS] at e;cases e),off9 b Z];exact ext8 b o Z e
     have cnd:(core++as).Nodup:=by
      rw[bY];exact⟨hcore.1,nda,λu hu v hv e=>(ain v hv).2 (e▸hu)⟩
     have sp:=aZr (core++as);have cl:(core++as).length<=5:=by rw[ax];omega
     have hone:SetOf names 6 (srS (core++as)):=⟨sp.nodup_iff.mpr cnd,bX8 _,λn hn=>by
      rcases a6.mp (sp.mem_iff.mp hn) with h|h
      ·exact hcore.2.2.1 n h
      ·exact(ain n h).1,by rw[sp.length_eq];omega⟩
     refine⟨_,rfl,_,_,rfl,rfl,z _ (by rw[ax] at cl;rw[ae,ae];omega),.inl ⟨core++as,(by rw[bo];rfl),by omega,_,rfl,?_⟩⟩
     generalize srS (core++as)=one at hone;refine⟨_,J,aX0 ts,okT one ts,_,rfl,ite2 (λh1=>?_) λh1=>?_⟩
     ·have hni:one∉ts:=λz=>by
       have:D.tup (one.map D.str)∈ts.map tupS:=mem_tups.mpr z
       simp[this] at h1
      refine⟨_,J,_,rfl,ite2 (λh2=>?_) λh2=>?_⟩
      ·have hlt:ts.length<most:=by
        have:=of_decide_eq_true h2
        rw[ae] at this;omega
       refine⟨⟨_,J⟩,_,J,by rw[ae,aZ];omega,hN2 _ _ ⟨_,_,_,ts++[one],bs,rfl,?_,?_,ndb,bin,bl,?_,?_,?_,dk10.supd U,λb o Z e=>?_⟩⟩
       ·rw[supd_same,bo];rfl
       ·rw[supd_ne hlpp];exact hus
       ·rw[ax];show _+1<=_;omega
       ·rw[bY];exact⟨G,bA.mpr ⟨by simp,dM⟩,λx hx y hy=>by rw[aF.mp hy];rintro rfl;exact hni hx⟩
       ·intro t ht;rcases a6.mp ht with h|h
        ·exact L t h
        ·rw[aF.mp h];exact hone
       ·rw[supd_ne (by rintro rfl;rw[hpS] at e;cases e)];exact ext10 b o Z e
      ·exact hN2 _ _ ⟨_,_,_,ts,bs,rfl,J,hus,ndb,bin,bl,hl,G,L,dk10,ext10⟩
     ·exact hN2 _ _ ⟨_,_,_,ts,bs,rfl,J,hus,ndb,bin,bl,hl,G,L,dk10,ext10⟩
    ·rintro Γ S8 ⟨x9,x10,x11,ts,ls,rfl,hf8,hl8,lnd,lin,ll,hl,G,L,dk8,ext8⟩;exact⟨trivial,hN _ _ ⟨_,_,_,_,_,_,ts,rfl,hf8,hl,G,L,dk8,ext8⟩⟩
   ·rintro Γ S' ⟨x6,x7,x8,x9,x10,x11,ts,rfl,hf,hl,G,L,dk',ext'⟩;have sp:=aXp ts;refine⟨trivial,.inr (.inr ⟨ts,.inl hf,G,by omega,_,rfl,aJ2 (S':=λb=>if b=a then S' a else S b) (λb o e=>?_) (q (srT ts) _ (CollB.of n12 ne (sp.nodup_iff.mpr G) (cXk ts) (λt h=>L t (sp.mem_iff.mp h)) (by rw[sp.length_eq];exact hl)) (λb Z=>if_neg Z) (dk'.eq (if_pos rfl)))⟩)⟩
    by_cases h:b=a
    ·subst h;rw[if_pos rfl] at e;exact e
    ·rw[if_neg h] at e;exact ext' b o h e
end
abbrev s_without_names:Stmt:=top 4
theorem sc_without_names:FnScope ["one", "row"] ["one", "row"] (aQ5 s_without_names):=fsc
section
variable{P:aA}{w:aO}{K:ar}{mg:Str->Option ad}{base:bd}{pt cc:Addr}
theorem bQ6(T:Tx K mg "without_names" s_without_names)(B:Bs mg):Df P w K mg base 1 "without_names" ["one", "row"] (spU K aQj):=by
 refine aZ1 T sc_without_names (λF=>F.binds λ_ _ _ _ _ _=>us2 λ_ _=>rfl) ?_ λf N A outer s H E J=>⟨_,(aQ4 (aQ8 (aZ3 rfl B.tuple (aQ0 (aQq (oc:=none) (b:=false) [0] [] rfl sc_without_names.nd (λ_ _ _=>aQc ..) (.own (.cap (i:=1) rfl (by decide +kernel) .nil)) (aQf rfl) (aQv (dv 0)) (cg_name) (λ_ _ _ _ _=>aQa (nd_ ["name", "row"]) rfl (aS rfl) (.inr rfl)) (λ_ _ _ _ _=>aZj ((cQ5 J (dv 0) (dv 1)))) aQi (λ_ _ _ _ _ _=>aQg rfl (PD.o (dv 0)))) aQ1)))),?_⟩
 ·rintro ds S Q ⟨α,dα,E,one,row,L,j,rfl,_⟩;rfl
 ·rintro ds S Q ⟨α,dα,E,one,row,L,j,rfl,O,h1,h2,hl,q⟩;have go:∀Q':List D->Sto->Prop,Q' ((wo one row).map E.e) S->aZn (aZp 0) (aXq (dOp (inD true) (dVar 0) (dVar 1))) (bXw (dVar 0)) (λ_=>True) [none,some j] (one.map E.e) [] S Q':=λQ' z =>
   aQt (λx G Q q=>in_t (by lia) h2.sq q) (λx G _ Q q=>q) (aQd (by show 0+one.length<=_;lia)) z
  rcases h1 with rfl|rfl
  ·exact⟨one.map E.e,rfl,go _ ⟨_,rfl,aQ7 q⟩⟩
  ·exact⟨one.map E.e,rfl,go _ ⟨_,rfl,aQ7 q⟩⟩
end
abbrev s_meets:Stmt:=top 2
theorem sc_meets:FnScope ["one", "row"] ["one", "row"] (aQ5 s_meets):=fsc
section
variable{P:aA}{w:aO}{K:ar}{mg:Str->Option ad}{base:bd}{pt cc:Addr}
theorem eZn(T:Tx K mg "meets" s_meets)(B:Bs mg):Df P w K mg base 1 "meets" ["one", "row"] (spU K bQf):=by
 refine aZ1 T sc_meets (λF=>F.binds λ_ _ _ _ _ _=>us2 λ_ _=>rfl) ?_ λf L A outer s H E G=>⟨_,(aQ4 (aQ8 (gJt rfl B.any (aQ0 (aQq (oc:=none) (b:=false) [0] [] rfl sc_meets.nd (λ_ _ _=>aQc ..) (.own (.cap (i:=0) rfl (by decide +kernel) .nil)) (aQf rfl) (aQv (dv 1)) (cg_name) (λ_ _ _ _ _=>aQa (nd_ ["name", "one"]) rfl (aS rfl) (.inr rfl)) (λ_ _ _ _ _=>aQk) aQi (λ_ _ _ _ _ _=>aQg rfl (PD.o (e_in G (dv 0) (dv 1))))) aQ1)))),?_⟩
 ·rintro ds S Q ⟨α,dα,E,one,row,j,J,rfl,_⟩;rfl
 ·rintro ds S Q ⟨α,dα,E,one,row,j,J,rfl,N,h1,h2,hl,q⟩;have go:∀Q':List D->Sto->Prop,Q' (row.map λd=>D.bl (decide (d∈one))) S->aZn (aZp 0) dYes (bXw (dOp (inD false) (dVar 0) (dVar 1))) (λ_=>True) [none,some j] (row.map E.e) [] S Q':=λQ' z =>
   aQn (λd hd Q q=>in_e (by lia) h1.sq q) (aQd (by show 0+row.length<=_;lia)) z
  have e:(row.map λd=>decide (d∈one)).any id=mts one row:=by rw[List.any_map];rfl
  rw[<- e] at q;rcases h2 with rfl|rfl
  ·exact⟨row.map E.e,rfl,go _ ⟨row.map λd=>decide (d∈one),by rw[bi];rfl,aQ7 q⟩⟩
  ·exact⟨row.map E.e,rfl,go _ ⟨row.map λd=>decide (d∈one),by rw[bi];rfl,aQ7 q⟩⟩
end
end Toy
namespace L2
open PySem
open Toy (ch aQp aQl ch_mem aZd)
section
variable{α:Type}[DecidableEq α]
def aZo(bs:List (List α))(r:List α):Prop:=∀b∈bs,¬ ∀x∈b,x∈r
def frB(bs:List (List α))(r:List α):Bool:=bs.all λb=>!(b.all λx=>decide (x∈r))
theorem frB_iff{r:List α}:frB bs r=true↔aZo bs r:=by
 unfold frB aZo;rw[ba];exact forall_congr' λb=>forall_congr' λ_=>by simp
theorem bZb(p:α->Bool):∀(ts:List α) (m:Nat),(ch ts m).filter (λr=>r.all p)=ch (ts.filter p) m
 |ts,0=>by rw[aQp,aQp];rfl
 |[],m+1=>rfl
 |x::ts,m+1=>by
  rw[aQl,dw,bZb p ts (m+1),gP,cH];cases hx:p x with
  |true =>
   rw[if_pos rfl,aQl,<- bZb p ts m]
   congr 2
   refine ik λr _=>?_;show(p x&&r.all p)=_;rw[hx,lh]
  |false =>
   rw[if_neg (by simp)]
   have:(ch ts m).filter ((λr=>r.all p)∘λr=>x::r)=[]:=eD.mpr λr _=>by
    show ¬ (p x&&r.all p)=true;rw[hx];simp
   rw[this];rfl
theorem cXz:∀ts:List α,ch ts ts.length=[ts]
 |[]=>rfl
 |x::ts=>by
  rw[aG,aQl,cXz ts,Toy.ch_big ts (ts.length+1) (fA _)]
  rfl
structure MfS(ts:List α)(bs:List (List α))(over:Int)(r:List α):Prop where
 sub:r.Sublist ts
 free:aZo bs r
 more:over<r.length
 most:∀r',r'.Sublist ts->aZo bs r'->r'.length<=r.length
 fst:((ch ts r.length).filter (frB bs)).head?=some r
def MfN(ts:List α)(bs:List (List α))(over:Int):Prop:=∀r',r'.Sublist ts->aZo bs r'->(r'.length:Int)<=over
def MF(ts:List α)(bs:List (List α))(over:Int):Option (List α)->Prop
 |none=>MfN ts bs over
 |some r=>MfS ts bs over r
theorem gX4{bs:List (List α)}{over:Int}(h:ts.length<=over):MF ts bs over none:=λj d _=>by
 have:=d.length_le
 lia
theorem gX5{ts:List α}{over:Int}(h:¬ ts.length<=over):MF ts [] over (some ts):=⟨cZ _,λb j=>absurd j (by simp),by lia,λz d _=>d.length_le,by rw[cXz];rfl⟩
def shrt(bs:List (List α))(x:α):List (List α):=bs.map λb=>wo b [x]
def shut(bs:List (List α))(x:α):List α:=(shrt bs x).filterMap λs=>if s.length=1 then s.head? else none
def brd(bs:List (List α))(x:α):List (List α):=(shrt bs x).filter λs=>!mts s (shut bs x)
theorem mem_w1'{x y:α}:y∈wo b [x]↔y∈b/\y≠x:=by rw[mem_wo];simp
theorem free_cons{x:α}{r:List α}:aZo bs (x::r)↔aZo (shrt bs x) r\/False:=by
 simp only[or_false];constructor
 ·intro h s hs d;obtain⟨b,z,rfl⟩:=av.mp hs;refine h b z λy j=>?_
  by_cases e:y=x
  ·rw[e];exact aj
  ·exact ak _ (d y (mem_w1'.mpr ⟨j,e⟩))
 ·intro h b z d;refine h (wo b [x]) (av.mpr ⟨b,z,rfl⟩) λy j=>?_;obtain⟨h1,h2⟩:=mem_w1'.mp j;exact(aw.mp (d y h1)).resolve_left h2
theorem mem_shut{x y:α}:y∈shut bs x↔[y]∈shrt bs x:=by
 unfold shut;rw[dW];constructor
 ·rintro⟨s,hs,h⟩
  split at h
  ·next hl =>
   match s,hl with
   |[z],_=>cases h;exact hs
  ·cases h
 ·intro h;exact⟨[y],h,by simp⟩
theorem free_brd{x:α}{r:List α}:aZo (shrt bs x) r↔(∀y∈r,y∉shut bs x)/\aZo (brd bs x) r:=by
 constructor
 ·intro h;refine⟨λy B hs=>h [y] (mem_shut.mp hs) λz D=>by rw[aF.mp D];exact B,λs hs=>h s (ao.mp hs).1⟩
 ·rintro⟨h1,h2⟩ s hs d
  by_cases hm:mts s (shut bs x)=true
  ·obtain⟨y,B,j⟩:=mts_iff.mp hm;exact h1 y (d y j) B
  ·exact h2 s (ao.mpr ⟨hs,by simpa using hm⟩) d
theorem fX8{x:α}{ts:List α}{bs:List (List α)}{over:Int}{m:Option (List α)}(h:MF (wo ts (shut bs x)) (brd bs x) (over-1) m) :
  match m with
  |none=>∀r,r.Sublist ts->aZo bs (x::r)->r.length+1<=over
  |some r0=>r0.Sublist ts/\aZo bs (x::r0)/\over<r0.length+1/\(∀r,r.Sublist ts->aZo bs (x::r)->r.length<=r0.length)/\((ch ts r0.length).filter λr=>frB bs (x::r)).head?=some r0:=by
 have same:∀m,((ch ts m).filter λr=>frB bs (x::r))=(ch (wo ts (shut bs x)) m).filter (frB (brd bs x)):=λm=>by
  have e:wo ts (shut bs x)=ts.filter λd=>!decide (d∈shut bs x):=rfl;rw[e,<- bZb,List.filter_filter];refine ik λr _=>?_;rw[i4,aV,frB_iff,frB_iff,ba];constructor
  ·intro h;have h1:=free_brd.mp ((free_cons.mp h).resolve_right id);exact⟨h1.2,λy j=>by simpa using h1.1 y j⟩
  ·rintro⟨h1,h2⟩;exact free_cons.mpr (.inl (free_brd.mpr ⟨λy j=>by simpa using h2 y j,h1⟩))
 have down:∀{r:List α},r.Sublist ts->aZo bs (x::r)->r.Sublist (wo ts (shut bs x))/\aZo (brd bs x) r:=λ{r} z hf=>by
  have h1:=free_brd.mp ((free_cons.mp hf).resolve_right id);refine⟨?_,h1.2⟩;have h2:=gA (λd=>!decide (d∈shut bs x)) z;rwa [dP.mpr λy j=>by simpa using h1.1 y j] at h2
 cases m with
 |none =>
  intro r z hf;obtain⟨h1,h2⟩:=down z hf
  have:=h r h1 h2
  lia
 |some r0 =>
  have h':=h;refine⟨h'.sub.trans bj,free_cons.mpr (.inl (free_brd.mpr ⟨λy j=>(mem_wo.mp (h'.sub.subset j)).2,h'.free⟩)),by have:=h'.more;lia,λr z hf=>?_,by rw[same];exact h'.fst⟩
  obtain⟨h1,h2⟩:=down z hf;exact h'.most r h1 h2
theorem aX1{x:α}{r:List α}(hx:x∉r):aZo bs r↔aZo (bs.filter λb=>!decide (x∈b)) r:=by
 constructor
 ·exact λh b j=>h b (ao.mp j).1
 ·intro h b j d
  by_cases e:x∈b
  ·exact hx (d x e)
  ·exact h b (ao.mpr ⟨j,by simpa using e⟩) d
def ovr(over:Int):Option (List α)->Int
 |none=>over
 |some r=>(r.length:Int)+1
theorem fX9{x:α}{ts:List α}{bs:List (List α)}{over:Int}{m o:Option (List α)}(nd:(x::ts).Nodup)(hm:MF (wo ts (shut bs x)) (brd bs x) (over-1) m)
  (ho:MF ts (bs.filter λb=>!decide (x∈b)) (ovr over m) o) :
  MF (x::ts) bs over (match o with|some r=>some r|none=>m.map (x::·)):=by
 have D:=(bA.mp nd).1;have w:=fX8 hm;have part:∀{r:List α},r.Sublist (x::ts)->(∃d,r=x::d/\d.Sublist ts)\/(r.Sublist ts/\x∉r):=λ{r} h=>by
  rcases fY.mp h with h1|⟨d,rfl,h1⟩
  ·exact .inr ⟨h1,λz=>D (h1.subset z)⟩
  ·exact .inl ⟨d,rfl,h1⟩
 have later:∀{L:Int}{r1:List α},MfS ts (bs.filter λb=>!decide (x∈b)) L r1->(∀d,d.Sublist ts->aZo bs (x::d)->d.length+1≠r1.length)->((ch (x::ts) r1.length).filter (frB bs)).head?=some r1:=λ{L r1} h' J=>by
  have f:=h'.fst;have e:(ch ts r1.length).filter (frB (bs.filter λb=>!decide (x∈b)))=(ch ts r1.length).filter (frB bs):=ik λr j=>by
   rw[i4,frB_iff,frB_iff];exact(aX1 λz=>D ((ch_mem j).2.subset z)).symm
  rw[e] at f;cases hn:r1.length with
  |zero=>rw[hn,aQp] at f;rw[aQp];exact f
  |succ n =>
   rw[hn] at f;rw[aQl,dw]
   have:((ch ts n).map (x::·)).filter (frB bs)=[]:=eD.mpr λr j=>by
    obtain⟨d,h0,rfl⟩:=av.mp j;intro z;obtain⟨l0,s0⟩:=ch_mem h0;exact J d s0 (frB_iff.mp z) (by lia)
   rw[this];exact f
 cases m with
 |none =>
  cases o with
  |none =>
   intro r j hf;rcases part j with⟨d,rfl,h1⟩|⟨h1,h2⟩
   ·have:=w d h1 hf
    rw[aG];lia
   ·exact ho r h1 ((aX1 h2).mp hf)
  |some r1 =>
   have h':MfS ts (bs.filter λb=>!decide (x∈b)) over r1:=ho;refine⟨h'.sub.cons _,(aX1 λz=>D (h'.sub.subset z)).mpr h'.free,h'.more,λr j hf=>?_,later h' λd h1 hf e=>by
    have:=w d h1 hf
    have:=h'.more
    lia⟩
   rcases part j with⟨d,rfl,h1⟩|⟨h1,h2⟩
   ·have:=w d h1 hf
    have:=h'.more
    rw[aG];lia
   ·exact h'.most r h1 ((aX1 h2).mp hf)
 |some d =>
  obtain⟨U,O,Z,G,N⟩:=w;cases o with
  |none =>
   refine⟨U.cons₂ x,O,by rw[aG];lia,λr j hf=>?_,?_⟩
   rotate_left
   ·rw[aG,aQl,dw,gP];have e:((ch ts d.length).filter (frB bs∘λr=>x::r))=(ch ts d.length).filter λr=>frB bs (x::r):=rfl;rw[e,List.head?_append,kX,N]
    rfl
   rcases part j with⟨B,rfl,h1⟩|⟨h1,h2⟩
   ·have:=G B h1 hf
    rw[aG,aG];lia
   ·have h3:(r.length:Int)<=d.length+1:=ho r h1 ((aX1 h2).mp hf);rw[aG];lia
  |some r1 =>
   have h':MfS ts (bs.filter λb=>!decide (x∈b)) (d.length + 1) r1:=ho;have Y:=h'.more;refine⟨h'.sub.cons _,(aX1 λz=>D (h'.sub.subset z)).mpr h'.free,by lia,λr j hf=>?_,later h' λB h1 hf e=>by
    have:=G B h1 hf
    lia⟩
   rcases part j with⟨B,rfl,h1⟩|⟨h1,h2⟩
   ·have:=G B h1 hf
    rw[aG];lia
   ·exact h'.most r h1 ((aX1 h2).mp hf)
def Bar(ts:List α)(bs:List (List α)):Prop:=∀b∈bs,b.Nodup/\2<=b.length/\∀x∈b,x∈ts
theorem Bar.off{ts:List α}{bs:List (List α)}(h:Bar (x::ts) bs):Bar ts (bs.filter λb=>!decide (x∈b)):=λb j=>by
 obtain⟨h1,h2⟩:=ao.mp j;have h2:x∉b:=by simpa using h2
 obtain⟨a,l,m⟩:=h b h1;exact⟨a,l,λy d=>(aw.mp (m y d)).resolve_left λe=>h2 (e▸d)⟩
theorem fXa(nd:b.Nodup)(x:α):b.length<=(wo b [x]).length+1:=by
 have:=nd.length_le_of_subset (l₂:=x::wo b [x]) λy d=>by
  by_cases e:y=x
  ·rw[e];exact aj
  ·exact ak _ (mem_w1'.mpr ⟨d,e⟩)
 simpa using this
theorem Bar.with{ts:List α}{bs:List (List α)}(h:Bar (x::ts) bs):Bar (wo ts (shut bs x)) (brd bs x):=λs hs=>by
 obtain⟨h1,h2⟩:=ao.mp hs;have h2:mts s (shut bs x)=false:=by simpa using h2
 obtain⟨b,B,rfl⟩:=av.mp h1;obtain⟨a,l,m⟩:=h b B;have D:=fXa a x;have no:∀y∈wo b [x],y∉shut bs x:=λy d z=>by
  rw[mts_iff.mpr ⟨y,z,d⟩] at h2;cases h2
 refine⟨a.sublist bj,aK λz=>?_,λy d=>mem_wo.mpr ⟨(aw.mp (m y (mem_w1'.mp d).1)).resolve_left (mem_w1'.mp d).2,no y d⟩⟩;have j:(wo b [x]).length=1:=by lia
 match e:wo b [x],j with
 |[y],_=>exact no y (by rw[e];exact aj) (mem_shut.mpr (e▸h1))
end
end L2
namespace Toy
open PySem L2
abbrev s_most_free:Stmt:=top 16
theorem sc_most_free:FnScope ["things", "barred", "over", "one", "best", "other"] ["things", "barred", "over"] (aQ5 s_most_free):=fsc
abbrev s_most_free_with:Stmt:=top 17
theorem sc_most_free_with:FnScope ["one", "things", "barred", "over", "shorter", "shut_out", "more"] ["one", "things", "barred", "over"] (aQ5 s_most_free_with):=fsc
def opE{α:Type}(E:Enc α):Option (List α)->D
 |none=>.non
 |some r=>.tup (r.map E.e)
def dQ6(n:Nat):SpD:=λds S Q=>∃(α:Type) (_:DecidableEq α) (E:Enc α) (ts:List α) (bs:List (List α)) (over:Int),ds=[.tup (ts.map E.e),.lst (bs.map λb=>.tup (b.map E.e)),.int over]/\E.dep<=3/\ts.Nodup/\ts.length<n/\ts.length<=99/\bs.length<=9999/\(∀b∈bs,b.length<=99)/\Bar ts bs/\∀m,MF ts bs over m->Q (opE E m) S
def eJ2(n:Nat):SpD:=λds S Q=>∃(α:Type) (_:DecidableEq α) (E:Enc α) (x:α) (ts:List α) (bs:List (List α)) (over:Int),ds=[E.e x,.tup (ts.map E.e),.lst (bs.map λb=>.tup (b.map E.e)),.int over]/\E.dep<=3/\ts.Nodup/\ts.length<n/\ts.length<=99/\bs.length<=9999/\(∀b∈bs,b.length<=99)/\Bar (x::ts) bs/\∀m,MF (wo ts (shut bs x)) (brd bs x) (over-1) m->Q (opE E (m.map (x::·))) S
def aXe:SpD:=dQ6 18
theorem gX6(h:dQ6 0 ds S Q):False:=by
 obtain⟨α,dα,E,ts,bs,over,_,_,_,h,_⟩:=h;exact b8 _ h
section
variable{P:aA}{w:aO}{K:ar}{mg:Str->Option ad}{base:bd}{pt cc:Addr}
theorem eZo{k n:Nat}(T:Tx K mg "most_free_with" s_most_free_with)(B:Bs mg)(d_without_names:Df P w K mg base k "without_names" ["one", "row"] (spU K aQj))(d_meets:Df P w K mg base k "meets" ["one", "row"] (spU K bQf))(d_most_free:Df P w K mg base k "most_free" ["things", "barred", "over"] (spU K (dQ6 n))):Df P w K mg base (k+1) "most_free_with" ["one", "things", "barred", "over"] (spU K (eJ2 n)):=by
 refine aZ1 T sc_most_free_with (λF=>F.binds λ_ _ _ _ _ _=>us4 λ_ _ _ _=>rfl) ?_ λf cdv A outer s H E z=>⟨_,(aQ2 (aJ1 (i:=4) rfl (aS rfl) (N':=["some", "one"]) (oc:=none) (b:=false) [0] [] rfl sc_most_free_with.nd (λ_ _ _=>aQc ..) (.own (.cap (i:=0) rfl (by decide +kernel) .nil)) (aQf rfl) (aQv (dv 2)) (cg_name (i:=0)) (λ_ _ _ _ _=>aQa (i:=0) (nd_ ["some", "one"]) rfl (aS rfl) (.inr rfl)) (λ_ _ _ _ _=>aQk) aQi (λ_ _ _ _ _ _=>aQg rfl (by exact PD.o (aQ3 d_without_names z rfl (aQ0 (dv 0) (aQ0 (bZq (aQ0 (dv 1) aQ1)) aQ1))))))
  (aQ2 (aQb (i:=5) sc_most_free_with.nd rfl (fQ rfl) (aQq (N':=["some"]) (oc:=none) (b:=false) [0] [] rfl sc_most_free_with.nd (λ_ _ _=>aQc ..) (.own .nil) (aQf rfl) (aQv (dv 4)) (cg_name (i:=0)) (λ_ _ _ _ _=>aQa (i:=0) (nd_ ["some"]) rfl (aS rfl) (.inr rfl)) (λ_ _ _ _ _=>aZj (by exact(dZu z (aQs rfl B.len (aQ0 (dv 0) aQ1)) aQ6))) aQi (λ_ _ _ _ _ _=>aQg rfl (by exact PD.o (e_ix (dv 0) aQ6)))))
  (aQ2 (aQb (i:=6) sc_most_free_with.nd rfl (aS rfl) (aQ3 d_most_free z rfl (aQ0 (aQ3 d_without_names z rfl (aQ0 (dv 1) (aQ0 (dv 5) aQ1))) (aQ0 (aQq (N':=["some", "shut_out"]) (oc:=none) (b:=false) [0] [] rfl sc_most_free_with.nd (λ_ _ _=>aQc ..) (.own (.cap (i:=5) rfl (by decide +kernel) .nil)) (aQf rfl) (aQv (dv 4)) (cg_name (i:=0)) (λ_ _ _ _ _=>aQa (i:=0) (nd_ ["some", "shut_out"]) rfl (aS rfl) (.inr rfl)) (λ_ _ _ _ _=>aZj (by exact(aXt (aJ7 (aQ3 d_meets z rfl (aQ0 (dv 0) (aQ0 (dv 1) aQ1))))))) aQi (λ_ _ _ _ _ _=>aQg rfl (by exact PD.o (dv 0)))) (aQ0 (dZr (dv 3) aQ6) aQ1)))))
  (aQ4 (aQ8 (cZ9 (eQz z (dv 6) aX6) aX6 (aQr (k:=false) (bZq (aQ0 (dv 0) aQ1)) (dv 6)))))))),?_⟩
 ·rintro ds S Q ⟨α,dα,E,x,ts,bs,over,rfl,_⟩;rfl
 ·rintro ds S Q ⟨α,dα,E,x,ts,bs,over,rfl,hE,nd,hn,ht,hb,hs,G,q⟩;have hsl:(shrt bs x).length=bs.length:=ae ..;have L:∀s∈shrt bs x,s.length<=99:=λs h=>by
   obtain⟨t,J,rfl⟩:=av.mp h;exact aH (bv _ _) (hs t J)
  refine⟨_,rfl,aQn (enc:=λb:List α=>D.tup (b.map E.e)) (f:=λs=>D.tup ((wo s [x]).map E.e)) (λs h Q q=>⟨aQd (by show 1<=9999;decide),α,dα,E,s,[x],_,_,rfl,by omega,.inl rfl,.inl rfl,by have:=hs s h;omega,q⟩) (aQd (by show 0+bs.length<=_;lia)) ?_⟩
  have e1:([]++bs.map λs=>D.tup ((wo s [x]).map E.e))=(shrt bs x).map λb=>D.tup (b.map E.e):=by unfold shrt;rw[bi];rfl
  rw[e1];have e2:(((shrt bs x).filter λs=>decide (s.length=1)).map λs:List α=>match s with|y::_=>E.e y|[]=>D.non)=(shut bs x).map E.e:=by
   unfold shut;generalize shrt bs x=Z
   induction Z with
   |nil=>rfl
   |cons s Z ih =>
    rw[cH,ce]
    by_cases h1:s.length=1
    ·match s,h1 with
     |[y],_=>exact congrArg (E.e y::·) ih
    ·rw[if_neg (by simpa using h1),if_neg h1]
     exact ih
  have N:(shut bs x).length<=9999:=by
   have:=congrArg eY e2
   rw[ae,ae] at this;have h2:=bv (λs:List α=>decide (s.length=1)) (shrt bs x);lia
  have Y:(brd bs x).length<=9999:=aH (bv _ _) (by lia)
  have U:∀s∈brd bs x,s.length<=99:=λs h=>L s (ao.mp h).1;have hwl:(wo ts (shut bs x)).length<=ts.length:=bv _ _;refine⟨_,rfl,aQt (p:=λs=>decide (s.length=1)) (f:=λs:List α=>match s with|y::_=>E.e y|[]=>D.non) (λs h Q q=>⟨_,rfl,rfl,_,rfl,?_⟩) (λs h hp Q q=>?_) (aQd (by show 0+(shrt bs x).length<=_;lia)) ?_⟩
  ·have e:(if false=true then !decide (D.int ((s.map E.e).length)=D.int 1) else decide (D.int ((s.map E.e).length)=D.int 1))=decide (s.length=1):=by
    rw[ae];exact decide_eq_decide.mpr ⟨λh=>by injection h with h;lia,λh=>by rw[h];rfl⟩
   exact e▸q
  ·have h1:=of_decide_eq_true hp
   match s,h1 with
   |[y],_=>exact⟨[E.e y],E.e y,rfl,aZa rfl,q⟩
  rw[c9,e2];refine⟨α,dα,E,ts,shut bs x,_,_,rfl,by lia,.inl rfl,.inr rfl,by lia,_,rfl,aQt (λs h Q q=>⟨α,dα,E,s,shut bs x,_,_,rfl,by lia,.inl rfl,.inr rfl,N,q⟩) (λs h _ Q q=>q) (aQd (by show 0+(shrt bs x).length<=_;lia)) ?_⟩
  refine⟨α,dα,E,wo ts (shut bs x),brd bs x,over-1,rfl,hE,nd.sublist bj,by lia,by lia,Y,U,G.with,λm hm=>?_⟩
  have:=q m hm
  cases m with
  |none=>exact⟨_,rfl,aQ7 this⟩
  |some r =>
   have O:=hm;have hl:=O.sub.length_le;exact⟨_,rfl,aQd (by show 1<=9999;decide),aQd (by show 1+(r.map E.e).length<=9999;rw[ae];lia),aQ7 this⟩
theorem gX7(T:Tx K mg "most_free" s_most_free)(B:Bs mg)(d_most_free_with:Df P w K mg base (k+1) "most_free_with" ["one", "things", "barred", "over"] (spU K (eJ2 n)))(d_most_free:Df P w K mg base (k+1) "most_free" ["things", "barred", "over"] (spU K (dQ6 n))):Df P w K mg base (k+2) "most_free" ["things", "barred", "over"] (spU K (dQ6 (n+1))):=by
 refine aZ1 T sc_most_free (λF=>F.binds λ_ _ _ _ _ _=>us3 λ_ _ _=>rfl) ?_ λf cdv A outer s H E L=>⟨_,(aQ2 (aQz (gJp L (aQs rfl B.len (aQ0 (dv 0) aQ1)) (dv 2)) (aQ4 (aQ8 aX6)) aQh)
  (aQ2 (aQz (aXt (aJ7 (dv 1))) (aQ4 (aQ8 (dv 0))) aQh)
  (aQ2 (aQb (i:=3) sc_most_free.nd rfl (fQ rfl) (e_ix (dv 0) aQ6))
  (aQ2 (aQb (i:=4) sc_most_free.nd rfl (aS rfl) (aQ3 d_most_free_with L rfl (aQ0 (dv 3) (aQ0 (e_sl (b:=false) (dv 0) (aZ4 aQ6) aZh) (aQ0 (dv 1) (aQ0 (dv 2) aQ1))))))
  (cZb (aQz (aJ0 L (dv 4) aX6) (aQ4 (aQb (i:=2) sc_most_free.nd rfl (aS rfl) (aQs rfl B.len (aQ0 (dv 4) aQ1)))) aQh)
  (aQ2 (aQb (i:=5) sc_most_free.nd rfl (aS rfl) (aQ3 d_most_free L rfl (aQ0 (e_sl (b:=false) (dv 0) (aZ4 aQ6) aZh) (aQ0 (aQq (oc:=none) (b:=false) [0] [] rfl sc_most_free.nd (λ_ _ _=>aQc ..) (.own (.cap (i:=3) rfl (by decide +kernel) .nil)) (aQf rfl) (aQv (dv 1)) (cg_name) (λ_ _ _ _ _=>aQa (nd_ ["some", "one"]) rfl (aS rfl) (.inr rfl)) (λ_ _ _ _ _=>aZj ((cQ5 L (dv 1) (dv 0)))) aQi (λ_ _ _ _ _ _=>aQg rfl (PD.o (dv 0)))) (aQ0 (dv 2) aQ1)))))
  (aQ4 (aQ8 (cZ9 (eQz L (dv 5) aX6) (dv 4) (dv 5)))))))))),?_⟩
 ·rintro ds S Q ⟨α,dα,E,ts,bs,over,rfl,_⟩;rfl
 ·rintro ds S Q ⟨α,dα,E,ts,bs,over,rfl,hE,nd,Z,Y,U,hs,G,q⟩;refine⟨_,rfl,_,rfl,ite2 (λc1=>?_) λc1=>?_⟩
  ·exact aQ7 (q none (gX4 (by have:=of_decide_eq_true c1;rwa [ae] at this)))
  have h1:=λz=>c1 (decide_eq_true (by rw[ae];exact z))
  match bs,U,hs,G,q with
  |[],_,_,_,q=>exact aQ7 (q _ (gX5 h1))
  |b0::J,U,hs,G,q =>
   match ts,nd,Z,Y,G,h1,q with
   |[],_,_,_,G,_,_ =>
    exfalso;obtain⟨_,l2,m⟩:=G b0 aj;cases b0 with
    |nil=>simp at l2
    |cons y b0=>exact absurd (m y aj) (by simp)
   |x::ts,nd,Z,Y,G,h1,q =>
    simp only[aG] at Y Z;have N:=(bA.mp nd).2;have ec:cutD ((x::ts).map E.e) (some 1) none=ts.map E.e:=bQg _ 0;refine⟨(x::ts).map E.e,E.e x,rfl,aZa rfl,1,rfl,α,dα,E,x,ts,b0::J,over,?_,hE,N,by lia,by lia,U,hs,G,λm hm=>?_⟩
    ·rw[ec]
    generalize hbd:b0::J=B at q hm U hs G;have hml:∀r,m=some r->r.length<=ts.length:=λr e=>by
     subst e;have hm':=hm;exact aH hm'.sub.length_le (bv _ _)
    refine⟨fun Γ' S'=>Γ'=[some (.tup ((x::ts).map E.e)),some (.lst (B.map λb=>D.tup (b.map E.e))),some (.int (ovr over m)),some (E.e x),some (opE E (m.map (x::·))),none]/\S'=S,?_,?_⟩
    ·cases m with
     |none=>exact⟨_,rfl,rfl,rfl⟩
     |some r =>
      refine⟨_,rfl,_,rfl,?_,rfl⟩;rw[ae];rfl
    rintro Γ' S' ⟨rfl,rfl⟩;refine⟨1,rfl,_,rfl,aQt (λs h Q q=>in_t (by lia) rfl q) (λs h _ Q q=>q) (aQd (by show 0+B.length<=_;lia)) ?_⟩
    refine⟨α,dα,E,ts,B.filter λs=>!decide (x∈s),ovr over m,?_,hE,N,by lia,by lia,aH (bv _ _) U,λs h=>hs s (ao.mp h).1,G.off,λo ho=>?_⟩
    ·rw[ec];rfl
    have O:=q _ (fX9 nd hm ho);cases o with
    |none=>exact⟨_,rfl,aQ7 O⟩
    |some r=>exact⟨_,rfl,aQ7 O⟩
theorem dJ6(T:Tx K mg "most_free" s_most_free)(T2:Tx K mg "most_free_with" s_most_free_with)(B:Bs mg)(d_without_names:Df P w K mg base 1 "without_names" ["one", "row"] (spU K aQj))(d_meets:Df P w K mg base 1 "meets" ["one", "row"] (spU K bQf)):∀n,Df P w K mg base (1+2*n) "most_free" ["things", "barred", "over"] (spU K (dQ6 n))
 |0=>T.df (λF=>F.binds λ_ _ _ _ _ _=>us3 λ_ _ _=>rfl) λF=>F.ok sc_most_free (λvs H Q E ⟨_,_,_,_,_,_,h,_⟩=>(gX6 h).elim) λj A outer s H vs Q D z ⟨_,_,_,_,_,_,h,_⟩=>(gX6 h).elim
 |n+1=>by
  have d:=dJ6 T T2 B d_without_names d_meets n;exact gX7 T B (eZo T2 B (d_without_names.mono (fz _ _)) (d_meets.mono (fz _ _)) d) (d.mono (d4 _))
theorem cQk(T:Tx K mg "most_free" s_most_free)(B:Bs mg)(T_most_free_with:Tx K mg "most_free_with" s_most_free_with)(d_without_names:Df P w K mg base 1 "without_names" ["one", "row"] (spU K aQj))(d_meets:Df P w K mg base 1 "meets" ["one", "row"] (spU K bQf)):Df P w K mg base 37 "most_free" ["things", "barred", "over"] (spU K aXe):=(dJ6 T T_most_free_with B d_without_names d_meets 18).mono (by decide)
end
abbrev s_choices_of:Stmt:=top 5
theorem sc_choices_of:FnScope ["things", "many", "found", "at", "one"] ["things", "many"] (aQ5 s_choices_of):=fsc
def aZe:SpD:=eZj 8
section
variable{P:aA}{w:aO}{K:ar}{mg:Str->Option ad}{base:bd}{pt cc:Addr}
theorem fXb(T:Tx K mg "choices_of" s_choices_of)(B:Bs mg)(d_choices_of:Df P w K mg base k "choices_of" ["things", "many"] (spU K (eZj n))):Df P w K mg base (k+1) "choices_of" ["things", "many"] (spU K (eZj (n+1))):=by
 refine aZ1 T sc_choices_of (λF=>F.binds λ_ _ _ _ _ _=>us2 λ_ _=>rfl) ?_ λf cdv A outer s H E hr=>⟨_,(aQ2 (aQz (dZu hr (dv 1) aQ6) (aQ4 (aQ8 (aX7 (b:=false) (aQ0 (bZq aQ1) aQ1)))) aQh)
  (aQ2 (aQz (aXt (fZn aQ6 (dv 1) (aQs rfl B.len (aQ0 (dv 0) aQ1)))) (aQ4 (aQ8 (aX7 (b:=false) aQ1))) aQh)
  (aQ2 (aQb (i:=2) sc_choices_of.nd rfl (aS rfl) (aX7 (b:=true) aQ1))
  (aQ2 (aX9 cS rfl (eXu rfl B.enumerate (aQ0 (dv 0) aQ1)) (eXt rfl (bQc (aZ5 (i:=3) sc_choices_of.nd rfl (aS rfl)) (bQc (aZ5 (i:=4) sc_choices_of.nd rfl (fQ rfl)) dX3))) (aQ4 (bZ2 (cXm (dv 2) (aQ0 (aQq (oc:=none) (b:=true) [0] [] rfl sc_choices_of.nd (λ_ _ _=>aQc ..) (.own (.cap (i:=4) rfl (by decide +kernel) .nil)) (aQf rfl) (aQv (aQ3 d_choices_of hr rfl (aQ0 (e_sl (b:=false) (dv 0) (aZ4 (aQr (k:=false) (dv 3) aQ6)) aZh) (aQ0 (dZr (dv 1) aQ6) aQ1)))) (cg_name) (λ_ _ _ _ _=>aQa (nd_ ["more", "one"]) rfl (aS rfl) (.inr rfl)) (λ_ _ _ _ _=>aQk) aQi (λ_ _ _ _ _ _=>aQg rfl (PD.o (aQr (k:=false) (bZq (aQ0 (dv 1) aQ1)) (dv 0))))) aQ1)))))
  (aQ4 (aQ8 (dv 2))))))),?_⟩
 ·rintro ds S Q ⟨xs,m,rfl,_⟩;rfl
 ·rintro ds S Q ⟨xs,m,rfl,hm,hx,q⟩;refine⟨rfl,_,rfl,ite2 (λc1=>?_) λc1=>?_⟩
  ·have e:m=0:=by
    have:=of_decide_eq_true c1
    injection this with this
    lia
   subst e;rw[aQp] at q;exact⟨aQd (by decide),aQd (by decide),aQ7 q⟩
  have m0:m≠0:=λe=>c1 (decide_eq_true (by rw[e];rfl))
  refine⟨_,rfl,ite2 (λ_=>?_) λc=>absurd (decide_eq_true (by lia)) c⟩
  refine⟨_,rfl,_,rfl,ite2 (λZ=>?_) λZ=>?_⟩
  ·have hb:xs.length<m:=by simp at Z;lia
   rw[ch_big xs m hb] at q;exact⟨aQd (by decide),aQ7 q⟩
  have hb:m<=xs.length:=by simp at Z;lia
  obtain⟨c,rfl⟩:∃c,m=c+1:=⟨m-1,by lia⟩
  refine⟨aQd (by decide),λfp j=>?_⟩
  have Y:=λm=>aH (bXa xs m) (d7 (by decide) hx)
  refine aZk (λi Γ S'=>∃(J G:Option D) (acc:List (List D)),Γ=[some (.tup xs),some (.int ((c+1))),some (.ref fp),J,G]/\S' fp=some (.lst (acc.map D.tup))/\acc++ch (xs.drop i) (c+1)=ch xs (c+1)/\∀b o,S b=some o->S' b=some o)
   ⟨none,none,[],rfl,supd_same,rfl,λb o e=>by rw[supd_ne (by rintro rfl;rw[j] at e;cases e)];exact e⟩ ?_ ?_
  ·rintro i x Γ S' N O ⟨J,G,acc,rfl,hf,d,hs⟩ hN;obtain⟨y,hy,rfl⟩:=aJ9 xs 0 i x O;have hi:i<xs.length:=by
    rcases bU i xs.length with z|z
    ·exact z
    ·rw[bL z] at hy;cases hy
   have L:xs[i]=y:=by rw[ah hi] at hy;exact aQ hy
   have hd:=fX4 xs i c hi;rw[L] at hd;have hlen:acc.length+(ch (xs.drop (i+1)) c).length<=2^20:=by
    have h1:=congrArg eY d;rw[hd,ax,ax,ae] at h1
    have:=Y (c+1)
    lia
   refine⟨trivial,rfl,rfl,⟨_,hf⟩,_,rfl,xs.drop (i+1),c,?_,by lia,by rw[bQ];lia,_,rfl,aQn (f:=λmore=>D.tup (y::more)) (λmore hm Q q=>?_) ?_ ?_⟩
   ·show [D.tup (cutD xs (some (0+i+1)) none),D.int (((c+1:Nat))-1)]=_;rw[kA,bQg,show((c+1:Nat):Int)-1=c by lia]
   ·have h1:=(ch_mem hm).1;exact⟨aQd (by show 1<=9999;decide),aQd (by show 1+more.length<=9999;lia),q⟩
   ·rw[aZ];show 0+(ch (xs.drop (i+1)) c).length<=_;lia
   ·intro p2 hp2;have U:p2≠fp:=by rintro rfl;rw[hp2] at hf;cases hf
    refine⟨_,_,(supd_ne (bX U)).trans hf,supd_same,?_,hN _ _ ⟨_,_,acc++(ch (xs.drop (i+1)) c).map (y::·),rfl,?_,?_,λb o e=>?_⟩⟩
    ·rw[c9,ae,ae,aZ];lia
    ·rw[supd_same,bo,bi];rfl
    ·rw[cL,<- hd];exact d
    ·rw[supd_ne (by rintro rfl;rw[j] at e;cases e),supd_ne (by rintro rfl;rw[hs _ _ e] at hp2;cases hp2)]
     exact hs b o e
  ·rintro Γ S' ⟨J,G,acc,rfl,hf,d,hs⟩;rw[aJ8,fR (am _),eXz,cR] at d;refine⟨trivial,gZh hf hs j (d▸q)⟩
theorem eJ3(T:Tx K mg "choices_of" s_choices_of)(B:Bs mg):∀n:Nat,Df P w K mg base (1+n) "choices_of" ["things", "many"] (spU K (eZj n))
 |0=>T.df (λF=>F.binds λ_ _ _ _ _ _=>us2 λ_ _=>rfl) λF=>F.ok sc_choices_of (λvs H Q E ⟨_,_,_,_,_,_,⟨_,_,_,h,_⟩,_⟩=>absurd h (b8 _)) λd A outer s H vs Q z j ⟨_,_,_,_,_,_,⟨_,_,_,h,_⟩,_⟩=>absurd h (b8 _)
 |n+1=>fXb T B (eJ3 T B n)
theorem bJa(T:Tx K mg "choices_of" s_choices_of)(B:Bs mg):Df P w K mg base 9 "choices_of" ["things", "many"] (spU K aZe):=eJ3 T B 8
end
abbrev s_names_of_all:Stmt:=top 8
theorem sc_names_of_all:FnScope ["some"] ["some"] (aQ5 s_names_of_all):=fsc
section
variable{P:aA}{w:aO}{K:ar}{mg:Str->Option ad}{base:bd}{pt cc:Addr}
theorem bZc(T:Tx K mg "names_of_all" s_names_of_all)(B:Bs mg):Df P w K mg base 1 "names_of_all" ["some"] (spU K aXc):=by
 refine aZ1 T sc_names_of_all (λF=>F.binds λ_ _ _ _ _ _=>us1 λ_=>rfl) ?_ λf L A outer s H E J=>⟨_,(aQ4 (aQ8 (aZ3 rfl B.tuple (aQ0 (aQq (b:=false) [0] [] rfl sc_names_of_all.nd (λ_ _ _=>aQc ..) (.own (.cap (i:=0) rfl (by decide +kernel) .nil)) (aQf rfl) (aQv (e_ix (dv 0) aQ6)) (cg_name) (λ_ _ _ _ _=>aQa (nd_ ["name", "some"]) rfl (fQ rfl) (.inl gQe)) (λ_ _ _ _ _=>aZj ((aJ7 (eZ0 rfl B.all (aQ0 (aQq (oc:=none) (b:=false) [0] [] rfl (nd_ ["name", "some"]) (λ_ _ _=>aQc ..) (.own (.cap (i:=0) rfl (by decide +kernel) .nil)) (aQf rfl) (aQv (dv 1)) (cg_name) (λ_ _ _ _ _=>aQa (nd_ ["one", "name"]) rfl (aS rfl) (.inr rfl)) (λ_ _ _ _ _=>aQk) aQi (λ_ _ _ _ _ _=>aQg rfl (PD.o (e_in J (dv 1) (dv 0))))) aQ1))))) aQi (λ_ _ _ _ _ _=>aQg rfl (PD.o (dv 0)))) aQ1)))),?_⟩
 ·rintro ds S Q ⟨ts,rfl,_⟩;rfl
 ·rintro ds S Q ⟨ts,rfl,z,hl,h,q⟩
  match ts,z with
  |t::d,_ =>
   refine⟨(t::d).map tupS,tupS t,rfl,aZa rfl,t.map D.str,rfl,aQt (λx G Q q=>⟨(t::d).map tupS,rfl,aQn (λo N Q q=>in_e (E:=strE) (by decide) rfl q) (aQd (by show 0+(t::d).length<=_;lia)) ⟨((t::d).map λo=>decide (x∈o)),?_,?_⟩⟩) (λx G _ Q q=>q) (aQd (by show 0+t.length<=_;have:=h t aj;lia)) ⟨_,rfl,aQ7 q⟩⟩
   ·rw[bi];rfl
   ·show Q (((t::d).map λo=>decide (x∈o)).all id) S;rw[dr];exact q
end
abbrev s_core_of:Stmt:=top 7
theorem sc_core_of:FnScope ["some", "core", "left"] ["some"] (aQ5 s_core_of):=fsc
section
variable{P:aA}{w:aO}{K:ar}{mg:Str->Option ad}{base:bd}{pt cc:Addr}
theorem dQ7(T:Tx K mg "core_of" s_core_of)(B:Bs mg)(d_names_of_all:Df P w K mg base 1 "names_of_all" ["some"] (spU K aXc))(d_without_names:Df P w K mg base 1 "without_names" ["one", "row"] (spU K aQj)):Df P w K mg base 2 "core_of" ["some"] (spU K aZg):=by
 refine aZ1 T sc_core_of (λF=>F.binds λ_ _ _ _ _ _=>us1 λ_=>rfl) ?_ λf cdv A outer s H E j=>⟨_,(aQ2 (aQz (PWD.pt (dX0 (cQ6 j (aQs rfl B.len (aQ0 (dv 0) aQ1)) aQ6) (cQ7 (cQ6 j (eXx j rfl B.len rfl B.set (dv 0)) (aQs rfl B.len (aQ0 (dv 0) aQ1)))))) (aQ4 (aQ8 aX6)) aQh)
  (aQ2 (aQb (i:=1) sc_core_of.nd rfl (fQ rfl) (aQ3 d_names_of_all j rfl (aQ0 (dv 0) aQ1)))
  (aQ2 (aJ1 (i:=2) rfl (aS rfl) (oc:=none) (b:=false) [0,1] [1] rfl sc_core_of.nd (λ_ _ _=>bQn _ _ _ _ _ _ _ _ _ _ _ _) (.own (.own (.cap (i:=1) rfl (by decide +kernel) .nil))) (aQf rfl) (aQv (dv 0)) (cg_name) (λ_ _ _ _ _=>aQa (nd_ ["one", "name", "core"]) rfl (aS rfl) (.inr rfl)) (λ_ _ _ _ _=>aQk) (bXx (cg_name) aQi) (λ_ _ _ _ _ _=>bXk (m:=λacc=>emitOf _ acc _) rfl rfl rfl (λ_=>bQo _ _ _ _ _ _ _ _ _ _ _ _) (PID.o (aQv (aQ3 d_without_names j rfl (aQ0 (dv 0) (aQ0 (dv 2) aQ1))))) (aQa (nd_ ["one", "name", "core"]) rfl (aS rfl) (.inr rfl)) (aQk) (aQg rfl (PD.o (dv 1))) (λ_=>rfl) (λ_=>rfl) (λ_=>rfl) (λ_=>rfl) (λ_=>rfl)))
  (aQ4 (aQ8 (cZ9 (dZu j (eXx j rfl B.len rfl B.set (dv 2)) (aQs rfl B.len (aQ0 (dv 2) aQ1))) (dv 1) aX6)))))),?_⟩
 ·rintro ds S Q ⟨ts,rfl,_⟩;rfl
 ·rintro ds S Q ⟨ts,rfl,hl,h,hlf,q⟩;have hlen:(ts.map tupS).length=ts.length:=ae ..;refine⟨_,rfl,_,rfl,ite2 (λc1=>?_) λc1=>?_⟩
  ·have h2:ts.length<2:=by have:=of_decide_eq_true c1;rw[hlen] at this;lia
   have e:coG ts=none:=by unfold coG;rw[if_pos (.inl h2)]
   rw[e] at q;exact aQ7 q
  ·have h2:¬ ts.length<2:=by simp at c1;lia
   refine .inl ⟨ts,rfl,by lia,λn U=>⟨_,rfl,_,rfl,ite2 (λO=>?_) λO=>?_⟩⟩
   ·have c3:=of_decide_eq_true O;rw[hlen] at c3;have nd:¬ ts.Nodup:=λz=>by have:=U.2.mpr z;lia
    have e:coG ts=none:=by unfold coG;rw[if_pos (.inr nd)]
    rw[e] at q;exact aQ7 q
   ·have c3:ts.length<=n:=by simp at O;exact O
    have nd:=U.2.mp (by have:=U.1;lia)
    have Z:ts≠[]:=by rintro rfl;simp at h2
    refine⟨ts,rfl,Z,hl,h,_,rfl,?_⟩;have L:∀i t,ts[i]?=some t->(ts.take (i+1)).flatMap (λo=>o.filter λd=>!decide (d∈naG ts))=(ts.take i).flatMap (λo=>o.filter λd=>!decide (d∈naG ts))++t.filter λd=>!decide (d∈naG ts):=λi t J=>by
     rw[cM,J,i9];congr 1
     simp
    have hle:=λi=>aH (aZl (d8 i ts)).length_le hlf;refine aJa (λi acc S'=>S'=S/\acc=((ts.take i).flatMap (λo=>o.filter λd=>!decide (d∈naG ts))).map D.str) ⟨rfl,rfl⟩ ?_ ?_
    ·rintro i x acc S' N Y ⟨rfl,rfl⟩ hN;rw[aY,bO] at Y;obtain⟨t,J,rfl⟩:=Y;refine⟨trivial,Str,inferInstance,strE,t,naG ts,tupS t,tupS (naG ts),rfl,by decide,.inl rfl,.inl rfl,by have:=h t (bS J);lia,_,rfl,aQn (λx Y Q q=>q) ?_ ?_⟩
     ·have:=hle (i+1)
      rw[L i t J,ax] at this;rw[ae];have e9:(wo t (naG ts)).length=(t.filter λd=>!decide (d∈naG ts)).length:=rfl;exact aQd (by lia)
     ·refine hN _ _ ⟨rfl,?_⟩;rw[L i t J,bo];rfl
    ·rintro acc S' ⟨rfl,rfl⟩;rw[ae,dF];refine⟨trivial,.inr ⟨lfG ts,rfl,by lia,λn G=>⟨_,rfl,rfl,_,rfl,ite2 (λc4=>?_) λc4=>?_⟩⟩⟩
     ·have c5:n=(lfG ts).length:=by
       have:=of_decide_eq_true c4
       injection this with this
       rw[ae] at this;exact Int.ofNat_inj.mp this
      have e:coG ts=some (naG ts):=by unfold coG;rw[if_neg (by rintro(z|z);exact h2 z;exact z nd),if_pos (G.2.mp c5)]
      rw[e] at q;exact aQ7 q
     ·have c5:=λz=>c4 (decide_eq_true (by rw[ae];exact congrArg (λn:Nat=>D.int n) (G.2.mpr z)))
      have e:coG ts=none:=by unfold coG;rw[if_neg (by rintro(z|z);exact h2 z;exact z nd),if_neg c5]
      rw[e] at q;exact aQ7 q
end
abbrev s_flowers_of:Stmt:=top 13
theorem sc_flowers_of:FnScope ["sets", "many", "flowers", "size", "longer"] ["sets", "many"] (aQ5 s_flowers_of):=fsc
section
variable{P:aA}{w:aO}{K:ar}{mg:Str->Option ad}{base:bd}{pt cc:Addr}
theorem bJb(T:Tx K mg "flowers_of" s_flowers_of)(B:Bs mg)(d_choices_of:Df P w K mg base 9 "choices_of" ["things", "many"] (spU K aZe))(d_core_of:Df P w K mg base 9 "core_of" ["some"] (spU K aZg)):Df P w K mg base 10 "flowers_of" ["sets", "many"] (spU K aJc):=by
 refine aZ1 T sc_flowers_of (λF=>F.binds λ_ _ _ _ _ _=>us2 λ_ _=>rfl) ?_ λf cdv A outer s H E Y=>⟨_,(aQ2 (aQz (cQ6 Y (dv 1) aQ6) (aQ4 (aQ8 (aX7 (b:=false) aQ1))) aQh)
  (aQ2 (aQb (i:=2) sc_flowers_of.nd rfl (aS rfl) (aQ3 d_choices_of Y rfl (aQ0 (dv 0) (aQ0 aQ6 aQ1))))
  (aQ2 (aX9 cS rfl (dX5 rfl B.range (aQ0 aQ6 (aQ0 (dv 1) aQ1))) (aZ5 (i:=3) sc_flowers_of.nd rfl (aS rfl)) (aQ2 (aJ1 (i:=4) rfl (aS rfl) (N':=["some", "one", "sets"]) (oc:=none) (b:=false) [0,1] [1] rfl sc_flowers_of.nd (λ_ _ _=>bQn _ _ _ _ _ _ _ _ _ _ _ _) (.own (.own (.cap (i:=0) rfl (by decide +kernel) .nil))) (aQf rfl) (aQv (dv 2)) (cg_name (i:=0)) (λ_ _ _ _ _=>aQa (i:=0) (nd_ ["some", "one", "sets"]) rfl (aS rfl) (.inr rfl)) (λ_ _ _ _ _=>aQk) (bXx (cg_name (i:=1)) aQi) (λ_ _ _ _ _ _=>bXk (m:=λacc=>emitOf _ acc _) rfl rfl rfl (λ_=>bQo _ _ _ _ _ _ _ _ _ _ _ _) (by exact PID.o (aQv (dv 2))) (aQa (i:=1) (nd_ ["some", "one", "sets"]) rfl (aS rfl) (.inr rfl)) (aZj (by exact(cQ6 Y (e_ix (dv 0) (fQu aQ6)) (dv 1)))) (aQg rfl (PD.o (aQr (k:=false) (dv 0) (bZq (aQ0 (dv 1) aQ1))))) (λ_=>rfl) (λ_=>rfl) (λ_=>rfl) (λ_=>rfl) (λ_=>rfl)))
  (aQ4 (aJ1 (i:=2) rfl (aS rfl) (oc:=none) (b:=false) [0] [] rfl sc_flowers_of.nd (λ_ _ _=>aQc ..) (.own .nil) (aQf rfl) (aQv (dv 4)) (cg_name) (λ_ _ _ _ _=>aQa (nd_ ["some"]) rfl (aS rfl) (.inr rfl)) (λ_ _ _ _ _=>aZj ((aJ0 Y (aQ3 d_core_of Y rfl (aQ0 (dv 0) aQ1)) aX6))) aQi (λ_ _ _ _ _ _=>aQg rfl (PD.o (dv 0)))))))
  (aQ4 (aQ8 (dv 2)))))),?_⟩
 ·rintro ds S Q ⟨ts,m,rfl,_⟩;rfl
 ·rintro ds S Q ⟨ts,m,rfl,m2,m6,hs,hl,he,q⟩;have big:∀n:Nat,n<=40000->n<=sizeLine:=λn h=>by rw[aZ];lia
  have chL:=λk=>aH (bXa ts k) (d7 (by decide) hl)
  have c2:=ch_map tupS ts 2;refine⟨_,rfl,ite2 (λc=>absurd (of_decide_eq_true c) (by lia)) λc=>?_⟩
  refine⟨ts.map tupS,2,rfl,by decide,by rw[ae];lia,?_⟩
  have e0:(ch (ts.map tupS) 2).map D.tup=(flw HT.lexS [] (λs=>(coG s).isSome) ts 0).map flE.e:=by
   rw[c2,bi];rfl
  rw[e0];refine⟨⟨by decide,by decide,by lia,by lia⟩,?_⟩
  have e1:((m:Int)-2).toNat=m-2:=by lia
  rw[e1];refine aZk (λi Γ S'=>∃x3 x4:Option D,Γ=[some (.tup (ts.map tupS)),some (.int m),some (.lst ((flw HT.lexS [] (λs=>(coG s).isSome) ts i).map flE.e)),x3,x4]/\S'=S) ⟨none,none,rfl,rfl⟩ ?_ ?_
  ·rintro i x Γ S' N hx ⟨x3,x4,rfl,rfl⟩ hN;have hi:i<m-2:=by have:=(a9.mp hx).1;rwa [aZq] at this
   have L:∀s∈flw HT.lexS [] (λs=>(coG s).isSome) ts i,s.length=i+2/\s.Sublist ts:=λs h=>by
    rw[dJ5 hs λt d=>(he t d).1] at h;exact⟨(mem_flO.mp h).1,(mem_flO.mp h).2.1⟩
   have G:∀j,((((flw HT.lexS [] (λs=>(coG s).isSome) ts i).take j).flatMap (ext HT.lexS [] ts))).length<=32768:=λj=>by
    refine aH ?_ (chL (i+3));rw[<- bXb (cZm hs) aZ6 (i+1)];exact(aZl ((d8 j _).trans (dJ0 (cZm hs) aZ6 i))).length_le
   have efl:∀j s,(flw HT.lexS [] (λs=>(coG s).isSome) ts i)[j]?=some s->((flw HT.lexS [] (λs=>(coG s).isSome) ts i).take (j+1)).flatMap (ext HT.lexS [] ts)=((flw HT.lexS [] (λs=>(coG s).isSome) ts i).take j).flatMap (ext HT.lexS [] ts)++ext HT.lexS [] ts s:=λj s h=>by
    rw[cM,h,i9];simp
   refine⟨trivial,_,rfl,aJa (λj acc S2=>S2=S'/\acc=(((flw HT.lexS [] (λs=>(coG s).isSome) ts i).take j).flatMap (ext HT.lexS [] ts)).map flE.e) ⟨rfl,rfl⟩ ?_ ?_⟩
   ·rintro j y acc S2 N2 hy ⟨rfl,rfl⟩ hN2;rw[aY,bO] at hy;obtain⟨s,O,rfl⟩:=hy;obtain⟨J,hss⟩:=L s (bS O);have hne:s≠[]:=by rintro rfl;simp at J
    refine⟨trivial,_,rfl,aQt (p:=λo=>HT.lexS (s.getLastD []) o) (f:=λo=>flE.e (s++[o])) (λo ho Q q=>?_) (λo ho _ Q q=>?_) (big _ ?_) ?_⟩
    ·exact⟨_,_,rfl,(by rw[fZl,fX6 hne []];rfl:atI (s.map tupS) (-1)=some (tupS (s.getLastD []))),s.getLastD [],o,rfl,rfl,_,rfl,q⟩
    ·refine⟨aQd (by show 1<=9999;decide),aQd (by show(s.map tupS).length+1<=9999;rw[ae];lia),?_⟩
     have e:flE.e (s++[o])=.tup (s.map tupS++[tupS o]):=by show D.tup ((s++[o]).map setE.e)=_;rw[bo];rfl
     rw[e] at q;exact q
    ·have h1:=G j;rw[ae];lia
    ·refine hN2 _ _ ⟨rfl,?_⟩;rw[efl j s O,bo];unfold ext;rw[bi];rfl
   ·rintro acc S2 ⟨rfl,rfl⟩;rw[ae,dF];have hL:=G (flw HT.lexS [] (λs=>(coG s).isSome) ts i).length;rw[dF] at hL;refine⟨trivial,_,rfl,aQt (λs hsm Q q=>?_) (λs _ _ Q q=>q) (big _ (by show 0+_<=_;lia)) (hN _ _ ⟨_,_,rfl,rfl⟩)⟩
    obtain⟨s0,U,hse⟩:=iJ.mp hsm;obtain⟨o,ho,rfl⟩:=av.mp hse;have J:=(L s0 U).1;have Z:∀t∈s0++[o],t.length<=12:=λt d=>by
     rcases a6.mp d with d|d
     ·exact(he t ((L s0 U).2.subset d)).2
     ·rw[aF.mp d];exact(he o (ao.mp ho).1).2
    have hll:(s0++[o]).length<=6:=by rw[ax,J];show i+2+1<=6;lia
    refine⟨s0++[o],rfl,by lia,λt d=>by have:=Z t d;lia,aH (bXd hll Z) (by decide),?_⟩
    cases hc:coG (s0++[o]) with
    |none=>rw[hc] at q;exact⟨_,rfl,q⟩
    |some c=>rw[hc] at q;exact⟨_,rfl,q⟩
  ·rintro Γ S' ⟨x3,x4,rfl,rfl⟩;rw[aZq,dJ5 hs λt d=>(he t d).1,show m-2+2=m by lia]
   exact⟨trivial,aQ7 q⟩
end
end Toy
set_option maxHeartbeats 4000000
namespace L2
open PySem Toy
theorem fXc(hs:SrtT ts)(m:Nat)(h2:2<=m):Bar ts (flO ts m):=λb z=>by
 obtain⟨h1,d⟩:=ch_mem (ao.mp z).1;exact⟨hs.nodup.sublist d,by lia,λx j=>d.subset j⟩
theorem bJc:∀(l:List (List Str)) (m:Nat),(ch l m).length+(ch l (m+1)).length<=2^l.length
 |[],0=>by decide
 |[],m+1=>by simp[ch]
 |x::l,0=>by
  have e:(x::l).length=l.length+1:=rfl;rw[aQp,aQl,aQp,ax,ae,e,jb]
  have:=bJc l 0
  rw[aQp] at this;have h2:1<=2^l.length:=jA;simp only[aG,dq] at *
  lia
 |x::l,m+1=>by
  rw[aQl,aQl,ax,ax,ae,ae,aG,jb]
  have:=bJc l m
  have:=bJc l (m+1)
  lia
theorem cZn(ts:List (List Str))(m:Nat):(ch ts m).length<=2^(ts.length-1):=by
 cases ts with
 |nil=>exact bXa [] m
 |cons x l =>
  cases m with
  |zero=>rw[aQp];exact jA
  |succ m =>
   rw[aQl,ax,ae];exact bJc l m
theorem eZp(ts:List (List Str))(h:ts.length<=14){m:Nat}:(flO ts m).length<=9999:=aH (bv _ _) (aH (cZn ts m) (d7 (j:=13) (by decide) (by lia) |> λh=>aH h (by decide)))
theorem fXd(ts:List (List Str))(m:Nat)(h:1<=m):aZo (flO ts m) []:=λb d z=>by
 obtain⟨h1,_⟩:=ch_mem (ao.mp d).1;cases b with
 |nil=>simp at h1;lia
 |cons x b=>exact absurd (z x aj) (by simp)
end L2
set_option maxHeartbeats 1000000
namespace Toy
open PySem L2
abbrev s_bound_below:Stmt:=top 24
theorem sc_bound_below:FnScope ["sets", "most"] ["sets"] (aQ5 s_bound_below):=fsc
def aZ8:SpD:=λds S Q=>∃ts:List (List Str),ds=[.tup (ts.map tupS)]/\SrtT ts/\ts.length<=14/\(∀t∈ts,Srt t/\t.length<=12)/\∀r,MfS ts (flO ts 3) (-1) r->Q (.int (((r.length+1)/2:Nat):Int)) S
section
variable{P:aA}{w:aO}{K:ar}{mg:Str->Option ad}{base:bd}{pt cc:Addr}
theorem bZu(T:Tx K mg "bound_below" s_bound_below)(B:Bs mg)(d_most_free:Df P w K mg base 37 "most_free" ["things", "barred", "over"] (spU K aXe))(d_flowers_of:Df P w K mg base 37 "flowers_of" ["sets", "many"] (spU K aJc)):Df P w K mg base 38 "bound_below" ["sets"] (spU K aZ8):=by
 refine aZ1 T sc_bound_below (λF=>F.binds λ_ _ _ _ _ _=>us1 λ_=>rfl) ?_ λf D A outer s H E j=>⟨_,(aQ2 (aQb (i:=1) sc_bound_below.nd rfl (aS rfl) (aQ3 d_most_free j rfl (aQ0 (dv 0) (aQ0 (aQ3 d_flowers_of j rfl (aQ0 (dv 0) (aQ0 aQ6 aQ1))) (aQ0 (fQu aQ6) aQ1)))))
  (aQ4 (aQ8 (cQ3 (aQr (k:=false) (aQs rfl B.len (aQ0 (dv 1) aQ1)) aQ6) aQ6)))),?_⟩
 ·rintro ds S Q ⟨ts,rfl,_⟩;rfl
 ·rintro ds S Q ⟨ts,rfl,hs,d,he,q⟩;refine⟨ts,3,rfl,by decide,by decide,hs,by lia,he,?_⟩
  refine⟨_,inferInstance,setE,ts,flO ts 3,-1,rfl,by decide,hs.nodup,by lia,by lia,eZp ts d,λb z=>?_,fXc hs 3 (by decide),λm hm=>?_⟩
  ·have:=(ch_mem (ao.mp z).1).1;lia
  cases m with
  |none=>exact absurd (hm [] (eH _) (fXd ts 3 (by decide))) (by decide)
  |some r =>
   have e:(((r.map setE.e).length:Int)+1)/2=(((r.length+1)/2:Nat)):=by rw[ae];lia
   refine⟨_,rfl,⟨by decide,by decide⟩,?_⟩
   show rtD Q (.int ((((r.map setE.e).length)+1)/2)) S;rw[e];exact aQ7 (q r hm)
end
end Toy
namespace L2
open PySem Toy
end L2
set_option maxHeartbeats 4000000
namespace L2
open PySem Toy
structure STO{α:Type}(lt:α->α->Bool):Prop where
 ir:∀a,lt a a=false
 tr:∀{a b c},lt a b=true->lt b c=true->lt a c=true
 tot:∀{a b},lt a b=false->a≠b->lt b a=true
theorem STO.as{lt:α->α->Bool}(o:STO lt){a b:α}(h:lt a b=true):lt b a=false:=by
 cases e:lt b a with
 |false=>rfl
 |true=>have:=o.tr h e;rw[o.ir] at this;cases this
theorem sto_lex:STO HT.lexS:=⟨aZ6,HT.lexS_tr,HT.lexS_tot⟩
section
variable{α:Type}[DecidableEq α]{lt:α->α->Bool}
theorem aZ9(x y:α)(xs ys:List α):lexG lt (x::xs) (y::ys)=if x=y then lexG lt xs ys else lt x y:=rfl
theorem STO.lexG(o:STO lt):STO (lexG lt) where
 ir:=λa=>by
  induction a with
  |nil=>rfl
  |cons x a d=>rw[aZ9,if_pos rfl];exact d
 tr:=λ{a b c}=>by
  induction a generalizing b c with
  |nil =>
   intro h1 h2;cases b with
   |nil=>cases h1
   |cons y b=>cases c with
    |nil=>cases h2
    |cons z c=>rfl
  |cons x a d =>
   intro h1 h2;cases b with
   |nil=>cases h1
   |cons y b =>
    cases c with
    |nil=>cases h2
    |cons z c =>
     rw[aZ9] at h1 h2 ⊢
     by_cases e:x=y
     ·subst e;rw[if_pos rfl] at h1
      by_cases j:x=z
      ·rw[if_pos j] at h2 ⊢;exact d h1 h2
      ·rw[if_neg j] at h2 ⊢;exact h2
     ·rw[if_neg e] at h1
      by_cases j:y=z
      ·subst j;rw[if_neg e];exact h1
      ·rw[if_neg j] at h2;have h3:=o.tr h1 h2;rw[if_neg (by rintro rfl;rw[o.ir] at h3;cases h3)]
       exact h3
 tot:=λ{a b}=>by
  induction a generalizing b with
  |nil =>
   intro h1 h2;cases b with
   |nil=>exact absurd rfl h2
   |cons y b=>cases h1
  |cons x a d =>
   intro h1 h2;cases b with
   |nil=>rfl
   |cons y b =>
    rw[aZ9] at h1 ⊢
    by_cases e:x=y
    ·subst e;rw[if_pos rfl] at h1 ⊢;exact d h1 λz=>h2 (by rw[z])
    ·rw[if_neg e] at h1;rw[if_neg (bX e)];exact o.tot h1 e
theorem cJ0(s t:List α)(p:List α):lexG lt (p++s) (p++t)=lexG lt s t:=by
 induction p with
 |nil=>rfl
 |cons x p d=>rw[List.cons_append,List.cons_append,aZ9,if_pos rfl];exact d
end
section
variable{α:Type}[DecidableEq α](ok:List α->Bool)
def pf:List α->List α->List (List α)
 |_,[]=>[]
 |part,o::os=>(if ok (part++[o])=true then (part++[o])::pf (part++[o]) os else [])++pf part os
def PF(part os:List α):List (List α):=part::pf ok part os
def aP:Nat->List α->List (List (List α))
 |_,[]=>[[]]
 |0,_::_=>[]
 |n+1,x::rest=>(PF ok [x] rest).flatMap λp=>(aP n (wo (x::rest) p)).map (p::·)
def po:Nat->List α->Option (List (List α))
 |_,[]=>some []
 |0,_::_=>none
 |m+1,x::rest=>aQm (λp=>(po m (wo (x::rest) p)).map (p::·)) (PF ok [x] rest)
variable{ok}
theorem bXe:∀{os part p:List α},p∈pf ok part os->∃s,s.Sublist os/\s≠[]/\p=part++s/\ok p=true
 |[],part,p,h=>by cases h
 |o::os,part,p,h=>by
  rcases a6.mp h with h|h
  ·split at h
   ·next j =>
    rcases aw.mp h with rfl|h
    ·exact⟨[o],fS _ (eH _),by simp,rfl,j⟩
    ·obtain⟨s,h1,h2,rfl,d⟩:=bXe h;exact⟨o::s,fS _ h1,by simp,by simp,d⟩
   ·cases h
  ·obtain⟨s,h1,h2,z,d⟩:=bXe h;exact⟨s,h1.cons _,h2,z,d⟩
theorem fXe(hcl:∀p q:List α,p.Sublist ts->q.Sublist p->q≠[]->ok p=true->ok q=true):∀{os part s:List α},(part++os).Sublist ts->s.Sublist os->s≠[]->ok (part++s)=true->part++s∈pf ok part os
 |[],part,s,_,h,j,_=>absurd (fG.mp h) j
 |o::os,part,s,d,h,j,z=>by
  rcases fY.mp h with h1|⟨s',rfl,h1⟩
  ·refine bq _ (fXe hcl (List.Sublist.trans ?_ d) h1 j z);exact ja (cZ _) (List.sublist_cons_self _ _)
  ·refine cm _ ?_;have sub:=(ja (cZ _) h).trans d;have B:=hcl _ _ sub (ja (cZ _) (fS _ (eH _))) (by simp) z
   rw[if_pos B]
   by_cases e:s'=[]
   ·subst e;exact aj
   ·refine ak _ ?_
    have:=fXe hcl (part:=part++[o]) (by simpa using d) h1 e (by simpa using z)
    simpa using this
variable{lt:α->α->Bool}
theorem dJ7(o':STO lt):∀{os part:List α},os.Pairwise (λa b=>lt a b=true)->(PF ok part os).Pairwise λa b=>lexG lt a b=true
 |[],part,_=>bI _ _
 |o::os,part,h=>by
  obtain⟨h1,h2⟩:=aM.mp h;have B:=dJ7 o' (part:=part) h2;obtain⟨N,D⟩:=aM.mp B;have pre:∀p∈pf ok part (o::os),lexG lt part p=true:=λp G=>by
   obtain⟨s,_,d,rfl,_⟩:=bXe G
   have:=cJ0 (lt:=lt) [] s part
   rw[cR] at this;rw[this];cases s with
   |nil=>exact absurd rfl d
   |cons _ _=>rfl
  refine aM.mpr ⟨pre,?_⟩;refine dE.mpr ⟨?_,D,λa ha b J=>?_⟩
  ·split
   ·exact dJ7 o' h2
   ·exact d9
  ·obtain⟨t,t1,j,rfl,_⟩:=bXe J;have L:∃s,a=part++o::s:=by
    split at ha
    ·rcases aw.mp ha with rfl|ha
     ·exact⟨[],rfl⟩
     ·obtain⟨s,_,_,rfl,_⟩:=bXe ha;exact⟨s,by simp⟩
    ·cases ha
   obtain⟨s,rfl⟩:=L;rw[cJ0];cases t with
   |nil=>exact absurd rfl j
   |cons z t =>
    have hlt:=h1 z (t1.subset aj);rw[aZ9,if_neg (by rintro rfl;rw[o'.ir] at hlt;cases hlt)]
    exact hlt
theorem wo_sub(ts p:List α):(wo ts p).Sublist ts:=bj
theorem eJ4(o:STO lt):∀(n:Nat) {ts:List α},ts.Pairwise (λa b=>lt a b=true)->(aP ok n ts).Pairwise λa b=>lexG (lexG lt) a b=true
 |n,[],_=>by cases n <;> exact bI _ _
 |0,_::_,_=>d9
 |n+1,x::rest,h=>by
  unfold aP;rw[List.pairwise_flatMap];refine⟨λp B=>?_,(dJ7 o (aM.mp h).2).imp λ{p q} hpq a z b j=>?_⟩
  ·rw[bu];refine(eJ4 o n (h.sublist (wo_sub _ _))).imp λd=>?_;rw[aZ9,if_pos rfl];exact d
  ·obtain⟨a,_,rfl⟩:=av.mp z;obtain⟨b,_,rfl⟩:=av.mp j;rw[aZ9,if_neg (by rintro rfl;rw[o.lexG.ir] at hpq;cases hpq)]
   exact hpq
theorem first_flat{f:β->List γ}{q:γ->Bool}:∀l:List β,((l.flatMap f).filter q).head?=aQm (λp=>((f p).filter q).head?) l
 |[]=>rfl
 |p::l=>by
  rw[cB,dw,List.head?_append];unfold aQm;cases ((f p).filter q).head? with
  |none=>exact first_flat l
  |some y=>rfl
theorem bZd{f g:β->Option γ}:∀{l:List β},(∀p∈l,f p=g p)->aQm f l=aQm g l
 |[],_=>rfl
 |p::l,h=>by
  unfold aQm;rw[h p aj,bZd λq d=>h q (ak _ d)]
theorem dJ8{rest p:List α}(h:p∈PF ok [x] rest):∃s,s.Sublist rest/\p=x::s/\(s=[]\/ok p=true):=by
 rcases aw.mp h with rfl|h
 ·exact⟨[],eH _,rfl,.inl rfl⟩
 ·obtain⟨s,h1,_,rfl,d⟩:=bXe h;exact⟨s,h1,rfl,.inr d⟩
theorem cZo{rest s:List α}:(wo (x::rest) (x::s)).length<=rest.length:=by
 have:wo (x::rest) (x::s)=rest.filter λd=>!decide (d∈x::s):=by
  unfold wo;rw[cH,if_neg (by simp)]
 rw[this];exact bv _ _
theorem dJ9:∀(m n:Nat) {ts:List α},ts.length<=n->po ok m ts=((aP ok n ts).filter λps=>decide (ps.length<=m)).head?
 |m,n,[],_=>by cases m <;> cases n <;> rfl
 |0,n+1,x::rest,_=>by
  have:((aP ok (n+1) (x::rest)).filter λps=>decide (ps.length<=0))=[]:=eD.mpr λps d=>by
   obtain⟨p,_,h⟩:=iJ.mp d;obtain⟨q,_,rfl⟩:=av.mp h;simp
  rw[this];rfl
 |m+1,n+1,x::rest,h=>by
  unfold aP;rw[first_flat];refine bZd λp j=>?_;obtain⟨s,_,rfl,_⟩:=dJ8 j;rw[dJ9 m n (aH cZo (by simpa using h)),gP,kX]
  congr 2
  refine ik λq _=>?_;show decide (q.length<=m)=decide ((q.length+1)<=m+1);exact decide_eq_decide.mpr (by lia)
 |m,0,x::rest,h=>by simp at h
variable(ok lt) in
structure CP(ts:List α)(ps:List (List α)):Prop where
 perm:ps.flatten.Perm ts
 each:∀p∈ps,p.Sublist ts/\p≠[]/\ok p=true
 hd:ps.Pairwise λp q=>∀a b,p.head?=some a->q.head?=some b->lt a b=true
theorem dJa{ts p:List α}(nd:ts.Nodup)(h:p.Sublist ts):(p++wo ts p).Perm ts:=by
 have d:=bY.mpr ⟨nd.sublist h,nd.sublist (wo_sub _ _),λa B b j e=>(mem_wo.mp j).2 (e▸B)⟩;refine(cI d nd).mpr λa=>?_;rw[a6,mem_wo];constructor
 ·rintro(z|z)
  ·exact h.subset z
  ·exact z.1
 ·intro z
  by_cases e:a∈p
  ·exact .inl e
  ·exact .inr ⟨z,e⟩
theorem eZq(o:STO lt){ts:List α}(h:ts.Pairwise λa b=>lt a b=true):ts.Nodup:=h.imp λ{a b} h e=>by subst e;rw[o.ir] at h;cases h
theorem cJ1(o:STO lt)(one:∀x,ok [x]=true):∀(n:Nat) {ts:List α},ts.length<=n->ts.Pairwise (λa b=>lt a b=true)->(∀p q:List α,p.Sublist ts->q.Sublist p->q≠[]->ok p=true->ok q=true)->∀ps,ps∈aP ok n ts↔CP ok lt ts ps
 |n,[],_,_,_,ps=>by
  have e:aP ok n ([])=[[]]:=by cases n <;> rfl
  rw[e,aF];constructor
  ·rintro rfl;exact⟨eL _,by simp,d9⟩
  ·intro h;cases ps with
   |nil=>rfl
   |cons p ps =>
    obtain⟨h1,h2,_⟩:=h.each p aj;exact absurd (fG.mp h1) h2
 |0,x::rest,h,_,_,_=>by simp at h
 |n+1,x::rest,hl,Y,N,ps=>by
  have nd:=eZq o Y;obtain⟨hx,hr⟩:=aM.mp Y;have L:=(bA.mp nd).1;have D:∀p:List α,∀u v:List α,u.Sublist (wo (x::rest) p)->v.Sublist u->v≠[]->ok u=true->ok v=true:=λp u v h1=>N u v (h1.trans (wo_sub _ _));unfold aP;rw[iJ];constructor
  ·rintro⟨p,hpf,h⟩;obtain⟨G,hq,rfl⟩:=av.mp h;obtain⟨s,hs,rfl,hk⟩:=dJ8 hpf;have U:=(cJ1 o one n (aH cZo (by simpa using hl)) (Y.sublist (wo_sub _ _)) (D _) G).mp hq
   have B:(x::s).Sublist (x::rest):=fS _ hs;refine⟨?_,λq j=>?_,aM.mpr ⟨λq j a b ha hb=>?_,U.hd⟩⟩
   ·rw[c6];exact(ix _ U.perm).trans (dJa nd B)
   ·rcases aw.mp j with rfl|j
    ·refine⟨B,by simp,?_⟩
     rcases hk with rfl|hk
     ·exact one x
     ·exact hk
    ·obtain⟨h1,h2,h3⟩:=U.each q j;exact⟨h1.trans (wo_sub _ _),h2,h3⟩
   ·cases ha;have hbm:=(U.each q j).1.subset (fh hb);obtain⟨h1,h2⟩:=mem_wo.mp hbm;exact hx b ((aw.mp h1).resolve_left λe=>h2 (e▸aj))
  ·intro h;have hxf:=h.perm.mem_iff.mpr aj;obtain⟨q,hq,hxq⟩:=de.mp hxf;have hqh:q.head?=some x:=by
    rcases fY.mp (h.each q hq).1 with z|⟨s,rfl,_⟩
    ·exact absurd (z.subset hxq) L
    ·rfl
   cases ps with
   |nil=>cases hq
   |cons p G =>
    obtain⟨ps1,ps2,Z⟩:=h.each p aj;obtain⟨hd1,hd2⟩:=aM.mp h.hd;have hph:∃s,p=x::s/\s.Sublist rest:=by
     rcases fY.mp ps1 with z|⟨s,e,z⟩
     ·exfalso;cases p with
      |nil=>exact ps2 rfl
      |cons a p =>
       have O:=z.subset (aj);rcases aw.mp hq with e|j
       ·rw[e] at hqh;cases hqh;exact L O
       ·have h1:=hd1 q j a x rfl hqh;rw[o.as (hx a O)] at h1;cases h1
     ·exact⟨s,e,z⟩
    obtain⟨s,rfl,hs⟩:=hph;have B:(x::s).Sublist (x::rest):=fS _ hs;refine⟨x::s,?_,av.mpr ⟨G,(cJ1 o one n (aH cZo (by simpa using hl)) (Y.sublist (wo_sub _ _)) (D _) G).mpr ⟨?_,λq j=>?_,hd2⟩,rfl⟩⟩
    ·by_cases e:s=[]
     ·subst e;exact aj
     ·exact ak _ (fXe N (cZ _) hs e Z)
    ·have:=h.perm
     rw[c6] at this;exact(jF _).mp (this.trans (dJa nd B).symm)
    ·obtain⟨h1,h2,h3⟩:=h.each q (ak _ j);refine⟨?_,h2,h3⟩;have J:=h.perm.nodup_iff.mpr nd;rw[c6] at J;have dis:=(bY.mp J).2.2;have e:q.filter (λd=>!decide (d∈x::s))=q:=dP.mpr λd hd'=>by
      have:=λz=>dis d z d (de.mpr ⟨q,j,hd'⟩) rfl
      simpa using this
     have:=gA (λd=>!decide (d∈x::s)) h1
     rw[e] at this;exact this
end
def okP(p:List (List Str)):Bool:=decide (p.length=1)||(coG p).isSome
theorem cZp(x:List Str):okP [x]=true:=rfl
theorem bXf(h:okP p=true)(h2:2<=p.length):(coG p).isSome=true:=by
 unfold okP at h;rw[kI] at h;rcases h with h|h
 ·have:=of_decide_eq_true h;lia
 ·exact h
theorem eJ5(nd:p.Nodup)(hs:∀o∈p,Srt o)(hq:q.Sublist p)(h2:2<=q.length)(h:(coG p).isSome=true):(coG q).isSome=true:=by
 have d:=aH h2 hq.length_le;obtain⟨c,z⟩:=bn.mp h
 have:=((dQ5 d nd hs).mp z).sublist hq
 rw[(dQ5 h2 (nd.sublist hq) λo j=>hs o (hq.subset j)).mpr this];rfl
theorem cZq(hs:SrtT ts)(he:∀t∈ts,Srt t)(p q:List (List Str))(hp:p.Sublist ts)(hq:q.Sublist p)(hne:q≠[])(h:okP p=true):okP q=true:=by
 unfold okP;rw[kI]
 by_cases e:q.length=1
 ·exact .inl (decide_eq_true e)
 ·have h2:2<=q.length:=by
   cases q with
   |nil=>exact absurd rfl hne
   |cons _ _=>simp at e ⊢;cases ‹List (List Str)› with|nil=>exact absurd rfl e|cons _ _=>simp
  exact .inr (eJ5 (hs.nodup.sublist hp) (λo d=>he o (hp.subset d)) hq h2 (bXf h (aH h2 hq.length_le)))
abbrev CPs(ts:List (List Str))(ps:List (List (List Str))):Prop:=CP okP HT.lexS ts ps
abbrev ltP:List (List (List Str))->List (List (List Str))->Bool:=lexG (lexG HT.lexS)
structure FW(ts:List (List Str))(r:List (List (List Str))):Prop where
 cp:CPs ts r
 few:∀s,CPs ts s->r.length<=s.length
 fst:∀s,CPs ts s->s.length=r.length->ltP s r=false
theorem hQe(hs:SrtT ts)(he:∀t∈ts,Srt t){m b:Nat}{r:List (List (List Str))}(hb:∀s,CPs ts s->b<=s.length)(hr:po okP m ts=some r)(hno:∀k,b<=k->k<m->po okP k ts=none):FW ts r:=by
 have iff:=cJ1 sto_lex cZp ts.length (am _) hs (cZq hs he);have srt:=eJ4 (ok:=okP) sto_lex ts.length hs;rw[dJ9 m ts.length (am _)] at hr;have hm:=fh hr;obtain⟨h1,h2⟩:=ao.mp hm;have h2:=of_decide_eq_true h2;refine⟨(iff r).mp h1,λs d=>aK λz=>?_,λs d e=>?_⟩
 ·have B:=hno s.length (hb s d) (by lia)
  rw[dJ9 _ ts.length (am _)] at B;have h4:s∈(aP okP ts.length ts).filter λps=>decide (ps.length<=s.length):=ao.mpr ⟨(iff s).mpr d,by simp⟩
  rw[List.head?_eq_none_iff] at B;rw[B] at h4;cases h4
 ·have h4:s∈(aP okP ts.length ts).filter λps=>decide (ps.length<=m):=ao.mpr ⟨(iff s).mpr d,decide_eq_true (by lia)⟩
  have j:=bE (λps=>decide (ps.length<=m)) srt;cases hl:(aP okP ts.length ts).filter λps=>decide (ps.length<=m) with
  |nil=>rw[hl] at h4;cases h4
  |cons y l =>
   rw[hl] at h4 hr j;cases hr;rcases aw.mp h4 with rfl|h4
   ·exact sto_lex.lexG.lexG.ir _
   ·exact sto_lex.lexG.lexG.as ((aM.mp j).1 s h4)
theorem gX8(hs:SrtT ts)(he:∀t∈ts,Srt t):∃r,po okP ts.length ts=some r:=by
 have iff:=cJ1 sto_lex cZp ts.length (am _) hs (cZq hs he);have c:CPs ts (ts.map λt=>[t]):=by
  refine⟨?_,λp z=>?_,?_⟩
  ·have:(ts.map λt=>[t]).flatten=ts:=by
    clear iff hs he
    induction ts with
    |nil=>rfl
    |cons t ts d=>rw[a8,c6,d];rfl
   rw[this]
  ·obtain⟨t,j,rfl⟩:=av.mp z;exact⟨dN.mpr j,by simp,rfl⟩
  ·rw[bu];refine hs.imp λh a b ha hb=>?_;cases ha;cases hb;exact h
 rw[dJ9 _ ts.length (am _)];have h4:(ts.map λt=>[t])∈(aP okP ts.length ts).filter λps=>decide (ps.length<=ts.length):=ao.mpr ⟨(iff _).mpr c,by simp⟩
 cases hl:(aP okP ts.length ts).filter λps=>decide (ps.length<=ts.length) with
 |nil=>rw[hl] at h4;cases h4
 |cons y l=>exact⟨y,rfl⟩
theorem bJd{β:Type}(f:β->Bool):∀l:List β,(l.filter f).length+(l.filter λx=>!f x).length=l.length
 |[]=>rfl
 |x::l=>by
  have:=bJd f l
  rw[cH,cH];cases f x <;> simp <;> lia
theorem cJ2:∀{s:List (List (List Str))}{r:List (List Str)},r.Nodup->(∀x∈r,x∈s.flatten)->(∀p∈s,(r.filter λx=>decide (x∈p)).length<=2)->r.length<=2*s.length
 |[],r,_,h,_=>by
  cases r with
  |nil=>exact am _
  |cons x r=>exact absurd (h x aj) (by simp)
 |p::s,r,nd,h,d=>by
  have h1:=d p aj;have B:=cJ2 (r:=r.filter λx=>!decide (x∈p)) (nd.sublist bj) (λx j=>by
   obtain⟨a,b⟩:=ao.mp j
   have:=h x a
   rw[c6,a6] at this;exact this.resolve_left (by simpa using b)) λq z=>aH (gA _ bj).length_le (d q (ak _ z))
  have e:(r.filter λx=>decide (x∈p)).length+(r.filter λx=>!decide (x∈p)).length=r.length:=bJd _ r;rw[aG];lia
theorem eZr(hs:SrtT ts)(h:p.Sublist ts):(ts.filter λx=>decide (x∈p))=p:=by
 refine SrtT.ext (bE _ hs) (lf.sublist h hs) λn=>?_;rw[ao];constructor
 ·exact λz=>of_decide_eq_true z.2
 ·exact λz=>⟨h.subset z,decide_eq_true z⟩
theorem cJ3(hs:SrtT ts)(he:∀t∈ts,Srt t){r:List (List Str)}(hr:MfS ts (flO ts 3) (-1) r){s:List (List (List Str))}(c:CPs ts s):(r.length+1)/2<=s.length:=by
 have:r.length<=2*s.length:=by
  refine cJ2 (hs.nodup.sublist hr.sub) (λx j=>c.perm.mem_iff.mpr (hr.sub.subset j)) λp G=>aK λz=>?_;obtain⟨d,_,D⟩:=c.each p G;have f1:(r.filter λx=>decide (x∈p)).Sublist r:=bj;have f2:(r.filter λx=>decide (x∈p)).Sublist p:=by
   have:=gA (λx=>decide (x∈p)) hr.sub
   rwa [eZr hs d] at this
  have t1:=(d8 3 (r.filter λx=>decide (x∈p)));have B:((r.filter λx=>decide (x∈p)).take 3).length=3:=by rw[a7];lia
  generalize (r.filter λx=>decide (x∈p)).take 3=q at t1 B;have sp:=t1.trans f2;have st:=sp.trans d;have co:=eJ5 (hs.nodup.sublist d) (λo J=>he o (d.subset J)) sp (by lia) (bXf D (by have:=sp.length_le;lia))
  refine hr.free q (ao.mpr ⟨?_,co⟩) λx j=>(t1.trans f1).subset j
  have:=aZd st
  rwa [B] at this
 lia
theorem dJb:∀(os part:List (List Str)),(pf okP part os).length+1<=2^os.length
 |[],_=>am _
 |o::os,part=>by
  unfold pf;have e:(o::os).length=os.length+1:=rfl;rw[ax,e,jb];have h1:=dJb os (part++[o]);have h2:=dJb os part
  split
  ·rw[aG];lia
  ·simp;lia
theorem gX9{os part:List (List Str)}(h:os.length<=k):(PF okP part os).length<=2^k:=aH (dJb os part) (d7 (by decide) h)
theorem gXa(h:po okP m ts=some r):r.length<=m:=by
 rw[dJ9 m ts.length (am _)] at h;exact of_decide_eq_true (ao.mp (fh h)).2
theorem gXb(xs:List D)(i:Nat)(h:i<=xs.length):cutD xs none (some i)=xs.take i:=by
 show((xs.drop 0).take (HT.sIx xs.length xs.length (some i)-0))=_;rw[HT.sIx_nat,eV h];rfl
end L2
set_option maxHeartbeats 1000000
namespace Toy
open PySem L2
abbrev s_is_part:Stmt:=top 22
theorem dQ8:FnScope ["part"] ["part"] (aQ5 s_is_part):=fsc
def aZy:SpD:=λds S Q=>∃ts:List (List Str),ds=[.tup (ts.map tupS)]/\ts.length<=14/\(∀t∈ts,t.length<=6)/\Q (.bl (okP ts)) S
section
variable{P:aA}{w:aO}{K:ar}{mg:Str->Option ad}{base:bd}{pt cc:Addr}
theorem dQ9(T:Tx K mg "is_part" s_is_part)(B:Bs mg)(d_core_of:Df P w K mg base 2 "core_of" ["some"] (spU K aZg)):Df P w K mg base 3 "is_part" ["part"] (spU K aZy):=by
 refine aZ1 T dQ8 (λF=>F.binds λ_ _ _ _ _ _=>us1 λ_=>rfl) ?_ λf D A outer s H E d=>⟨_,(aQ4 (aQ8 (e_or (e_eq d (aQs rfl B.len (aQ0 (dv 0) aQ1)) aQ6) (dZz (dZy d (aQ3 d_core_of d rfl (aQ0 (dv 0) aQ1)) aX6))))),?_⟩
 ·rintro ds S Q ⟨ts,rfl,_⟩;rfl
 ·rintro ds S Q ⟨ts,rfl,hl,he,q⟩;unfold okP at q;refine⟨_,rfl,rfl,_,rfl,ite2 (λc=>?_) λc=>?_⟩
  ·have e:ts.length=1:=by
    have:=of_decide_eq_true c
    injection this with this
    rw[ae] at this;lia
   rw[decide_eq_true e,Bool.true_or] at q;exact aQ7 q
  have e:ts.length≠1:=λz=>c (decide_eq_true (by rw[ae,z];rfl))
  rw[decide_eq_false e,Bool.false_or] at q;refine⟨ts,rfl,by lia,λt j=>by have:=he t j;lia,aH (bXd hl he) (by decide),?_⟩
  cases hh:coG ts with
  |none=>rw[hh] at q;exact aQ7 q
  |some c=>rw[hh] at q;exact aQ7 q
end
abbrev s_parts_from:Stmt:=top 21
theorem sc_parts_from:FnScope ["part", "others", "found", "at", "one", "longer"] ["part", "others"] (aQ5 s_parts_from):=fsc
def eZs(n:Nat):SpD:=λds S Q=>∃part os:List (List Str),ds=[.tup (part.map tupS),.tup (os.map tupS)]/\os.length<n/\part.length+os.length<=14/\(∀t∈part,t.length<=6)/\(∀t∈os,t.length<=6)/\∀p S',S p=none->S' p=some (.lst ((PF okP part os).map flE.e))->(∀b,b≠p->S' b=S b)->Q (.ref p) S'
def aZf:SpD:=eZs 15
section
variable{P:aA}{w:aO}{K:ar}{mg:Str->Option ad}{base:bd}{pt cc:Addr}
theorem fXf(T:Tx K mg "parts_from" s_parts_from)(B:Bs mg)(d_is_part:Df P w K mg base k "is_part" ["part"] (spU K aZy))(d_parts_from:Df P w K mg base k "parts_from" ["part", "others"] (spU K (eZs n))):Df P w K mg base (k+1) "parts_from" ["part", "others"] (spU K (eZs (n+1))):=by
 refine aZ1 T sc_parts_from (λF=>F.binds λ_ _ _ _ _ _=>us2 λ_ _=>rfl) ?_ λf cdv A outer s H E hr=>⟨_,(aQ2 (aQb (i:=2) sc_parts_from.nd rfl (aS rfl) (aX7 (b:=true) (aQ0 (dv 0) aQ1)))
  (aQ2 (aX9 cS rfl (eXu rfl B.enumerate (aQ0 (dv 1) aQ1)) (eXt rfl (bQc (aZ5 (i:=3) sc_parts_from.nd rfl (aS rfl)) (bQc (aZ5 (i:=4) sc_parts_from.nd rfl (aS rfl)) dX3))) (aQ2 (aQb (i:=5) sc_parts_from.nd rfl (aS rfl) (aQr (k:=false) (dv 0) (bZq (aQ0 (dv 4) aQ1))))
  (aQ4 (aQz (aJ7 (aQ3 d_is_part hr rfl (aQ0 (dv 5) aQ1))) (aQ4 (bZ2 (cXm (dv 2) (aQ0 (aQ3 d_parts_from hr rfl (aQ0 (dv 5) (aQ0 (e_sl (b:=false) (dv 1) (aZ4 (aQr (k:=false) (dv 3) aQ6)) aZh) aQ1))) aQ1)))) aQh))))
  (aQ4 (aQ8 (dv 2))))),?_⟩
 ·rintro ds S Q ⟨part,os,rfl,_⟩;rfl
 ·rintro ds S Q ⟨part,os,rfl,hn,hl,h1,h2,q⟩;have big:∀n:Nat,n<=100000->n<=sizeLine:=λn h=>by rw[aZ];lia
  have all:=gX9 (part:=part) (os:=os) (k:=14) (by lia)
  refine⟨aQd (by show 1<=9999;decide),λfp G=>?_⟩
  refine aZk (λi Γ S'=>∃(O L J:Option D) (acc:List (List (List Str))),Γ=[some (.tup (part.map tupS)),some (.tup (os.map tupS)),some (.ref fp),O,L,J]/\S' fp=some (.lst ((part::acc).map flE.e))/\acc++pf okP part (os.drop i)=pf okP part os/\∀b o,S b=some o->S' b=some o) ⟨none,none,none,[],rfl,supd_same,rfl,λb o e=>by rw[supd_ne (by rintro rfl;rw[G] at e;cases e)];exact e⟩ ?_ ?_
  ·rintro i x Γ S' N hx ⟨O,L,J,acc,rfl,hf,d,hs⟩ hN;obtain⟨y,hy,rfl⟩:=aJ9 _ 0 i x hx;rw[aY,bO] at hy;obtain⟨o,Z,rfl⟩:=hy;have hi:=(a9.mp Z).1;have hd:os.drop i=o::os.drop (i+1):=by
    rw[cu hi]
    congr 1
    exact(a9.mp Z).2
   have Y:=h2 o (bS Z);have e6:∀t∈part++[o],t.length<=6:=λt U=>by
    rcases a6.mp U with z|z
    ·exact h1 t z
    ·rw[aF.mp z];exact Y
   have pl:(part++[o]).length=part.length+1:=ax;have nx:pf okP part (os.drop i)=(if okP (part++[o])=true then PF okP (part++[o]) (os.drop (i+1)) else [])++pf okP part (os.drop (i+1)):=by rw[hd];rfl
   rw[nx,<- cL] at d;refine⟨trivial,rfl,rfl,aQd (by show 1<=9999;decide),aQd (by show(part.map tupS).length+1<=9999;rw[ae];lia),part++[o],(by rw[bo];rfl),by lia,e6,ite2 (λc=>?_) λc=>?_⟩
   ·rw[if_pos c] at d;refine⟨⟨_,hf⟩,_,rfl,part++[o],os.drop (i+1),?_,by rw[bQ];lia,by rw[bQ];lia,e6,λt U=>h2 t (fg U),λp2 S2 hp2 h2' j=>?_⟩
    ·rw[kA,bQg,<- List.map_drop,bo];rfl
    have hne:fp≠p2:=by rintro rfl;rw[hf] at hp2;cases hp2
    have hlen:=congrArg eY d;rw[ax,ax] at hlen;have allp:(pf okP part os).length+1<=16384:=all;refine⟨_,_,(j fp hne).trans hf,h2',big _ (by rw[ae,ae,aG];lia),hN _ _ ⟨_,_,_,acc++PF okP (part++[o]) (os.drop (i+1)),rfl,?_,d,λb o' e=>?_⟩⟩
    ·rw[supd_same,<- bo];rfl
    ·have hb:=hs b o' e;rw[supd_ne (by rintro rfl;rw[G] at e;cases e),j b (by rintro rfl;rw[hp2] at hb;cases hb)]
     exact hb
   ·rw[if_neg c,cR] at d;exact hN _ _ ⟨_,_,_,acc,rfl,hf,d,hs⟩
  ·rintro Γ S' ⟨O,L,J,acc,rfl,hf,d,hs⟩;rw[aJ8,ae,fD] at d;have e:acc=pf okP part os:=by rw[<- d];exact(cR _).symm
   refine⟨trivial,aJ2 (S':=λb=>if b=fp then S' fp else S b) (λb o e=>?_) (q fp _ G (by rw[if_pos rfl,hf,e];rfl) λb hb=>if_neg hb)⟩
   by_cases h:b=fp
   ·subst h;rw[if_pos rfl] at e;exact e
   ·rw[if_neg h] at e;exact hs b o e
theorem eJ6(T:Tx K mg "parts_from" s_parts_from)(B:Bs mg)(d_is_part:Df P w K mg base 3 "is_part" ["part"] (spU K aZy)):∀n:Nat,Df P w K mg base (3+n) "parts_from" ["part", "others"] (spU K (eZs n))
 |0=>T.df (λF=>F.binds λ_ _ _ _ _ _=>us2 λ_ _=>rfl) λF=>F.ok sc_parts_from (λvs H Q E ⟨_,_,_,_,_,_,⟨_,_,_,h,_⟩,_⟩=>absurd h (b8 _)) λd A outer s H vs Q z j ⟨_,_,_,_,_,_,⟨_,_,_,h,_⟩,_⟩=>absurd h (b8 _)
 |n+1=>fXf T B (d_is_part.mono (fz _ _)) (eJ6 T B d_is_part n)
theorem bJe(T:Tx K mg "parts_from" s_parts_from)(B:Bs mg)(d_is_part:Df P w K mg base 3 "is_part" ["part"] (spU K aZy)):Df P w K mg base 18 "parts_from" ["part", "others"] (spU K aZf):=eJ6 T B d_is_part 15
end
abbrev s_parting_of:Stmt:=top 20
theorem sc_parting_of:FnScope ["sets", "many", "part", "more"] ["sets", "many"] (aQ5 s_parting_of):=fsc
def opP:Option (List (List (List Str)))->D
 |none=>.non
 |some r=>.tup (r.map flE.e)
def eZt(n:Nat):SpD:=λds S Q=>∃(ts:List (List Str)) (m:Nat),ds=[.tup (ts.map tupS),.int m]/\m<n/\m<=99/\ts.length<=14/\(∀t∈ts,t.length<=6)/\Q (opP (po okP m ts)) S
def aJd:SpD:=eZt 15
section
variable{P:aA}{w:aO}{K:ar}{mg:Str->Option ad}{base:bd}{pt cc:Addr}
theorem fXg(T:Tx K mg "parting_of" s_parting_of)(B:Bs mg)(d_parts_from:Df P w K mg base k "parts_from" ["part", "others"] (spU K aZf))(d_without_names:Df P w K mg base k "without_names" ["one", "row"] (spU K aQj))(d_parting_of:Df P w K mg base k "parting_of" ["sets", "many"] (spU K (eZt n))):Df P w K mg base (k+1) "parting_of" ["sets", "many"] (spU K (eZt (n+1))):=by
 refine aZ1 T sc_parting_of (λF=>F.binds λ_ _ _ _ _ _=>us2 λ_ _=>rfl) ?_ λf cdv A outer s H E L=>⟨_,(aQ2 (aQz (aXt (aJ7 (dv 0))) (aQ4 (aQ8 (bZq aQ1))) aQh)
  (aQ2 (aQz (dZu L (dv 1) aQ6) (aQ4 (aQ8 aX6)) aQh)
  (aQ2 (aX9 cS rfl (aQv (aQ3 d_parts_from L rfl (aQ0 (e_sl (b:=false) (dv 0) aZh (aZ4 aQ6)) (aQ0 (e_sl (b:=false) (dv 0) (aZ4 aQ6) aZh) aQ1)))) (aZ5 (i:=2) sc_parting_of.nd rfl (aS rfl)) (aQ2 (aQb (i:=3) sc_parting_of.nd rfl (aS rfl) (aQ3 d_parting_of L rfl (aQ0 (aQ3 d_without_names L rfl (aQ0 (dv 0) (aQ0 (dv 2) aQ1))) (aQ0 (dZr (dv 1) aQ6) aQ1))))
  (aQ4 (aQz (aJ0 L (dv 3) aX6) (aQ4 (aQ8 (aQr (k:=false) (bZq (aQ0 (dv 2) aQ1)) (dv 3)))) aQh))))
  (aQ4 (aQ8 aX6))))),?_⟩
 ·rintro ds S Q ⟨ts,m,rfl,_⟩;rfl
 ·rintro ds S Q ⟨ts,m,rfl,hm,hm9,hl,he,q⟩;refine ite2 (λc=>?_) λc=>?_
  ·have e:ts=[]:=by cases ts with|nil=>rfl|cons _ _=>cases c
   subst e;have e2:po okP m []=some []:=by cases m <;> rfl
   rw[e2] at q;exact⟨aQd (by decide),aQ7 q⟩
  cases ts with
  |nil=>exact absurd rfl c
  |cons x rest =>
   refine⟨rfl,_,rfl,ite2 (λc0=>?_) λc0=>?_⟩
   ·have e:m=0:=by
     have:=of_decide_eq_true c0
     injection this with this
     lia
    subst e;exact aQ7 q
   obtain⟨m,rfl⟩:∃j,m=j+1:=⟨m-1,by (have:m≠0:=λe=>c0 (by rw[e];rfl);lia)⟩
   rw[aG] at hl;refine⟨1,rfl,1,rfl,[x],rest,?_,by lia,by show 1+rest.length<=14;lia,λt J=>he t (by rw[aF.mp J];exact aj),λt J=>he t (ak _ J),λp S1 hp h1 G=>?_⟩
   ·rw[a8,fX7,eZl];rfl
   have hs:∀a o,S a=some o->S1 a=some o:=λa o e=>by rw[G a (by rintro rfl;rw[hp] at e;cases e)];exact e
   have er:po okP (m+1) (x::rest)=aQm (λp=>(po okP m (wo (x::rest) p)).map (p::·)) (PF okP [x] rest):=rfl;rw[er] at q;refine⟨_,h1,aZk (λi Γ S'=>∃Y U:Option D,Γ=[some (.tup ((x::rest).map tupS)),some (.int ((m+1))),Y,U]/\S'=S1/\∀(j:Nat) z,j<i->(PF okP [x] rest)[j]?=some z->(po okP m (wo (x::rest) z)).map (z::·)=none) ⟨none,none,rfl,rfl,λj z h=>absurd h (b8 _)⟩ ?_ ?_⟩
   ·rintro i y Γ S' N hy ⟨Y,U,rfl,rfl,d⟩ hN;rw[aY,bO] at hy;obtain⟨pt,O,rfl⟩:=hy;have Z:(wo (x::rest) pt).length<=14:=aH (bv _ _) hl;refine⟨h1,List Str,inferInstance,setE,x::rest,pt,_,_,rfl,by decide,.inl rfl,.inl rfl,by rw[aG];lia,wo (x::rest) pt,m,?_,by lia,by lia,Z,λt J=>he t (mem_wo.mp J).1,?_⟩
    ·show [D.tup ((wo (x::rest) pt).map tupS),D.int (((m+1:Nat))-1)]=_;rw[show((m+1:Nat):Int)-1=m by lia]
    cases e:po okP m (wo (x::rest) pt) with
    |none =>
     refine⟨_,rfl,hN _ _ ⟨_,_,rfl,rfl,λj z hj hz=>?_⟩⟩;rcases bU j i with h|h
     ·exact d j z h hz
     ·have:j=i:=by lia
      subst this;rw[O] at hz;cases hz;rw[e];rfl
    |some r =>
     have e2:=cXx O (by rw[e];rfl) d
     rw[e2] at q;have rl:=gXa e;exact⟨_,rfl,aQd (by show 1<=9999;decide),aQd (by show 1+(r.map flE.e).length<=9999;rw[ae];lia),aJ2 hs q⟩
   ·rintro Γ S' ⟨Y,U,rfl,rfl,d⟩;rw[ae] at d;rw[cXy λj z hz=>d j z (a9.mp hz).1 hz] at q;exact⟨h1,aJ2 hs q⟩
theorem dJc(T:Tx K mg "parting_of" s_parting_of)(B:Bs mg)(d_parts_from:Df P w K mg base 18 "parts_from" ["part", "others"] (spU K aZf))(d_without_names:Df P w K mg base 18 "without_names" ["one", "row"] (spU K aQj)):∀n:Nat,Df P w K mg base (18+n) "parting_of" ["sets", "many"] (spU K (eZt n))
 |0=>T.df (λF=>F.binds λ_ _ _ _ _ _=>us2 λ_ _=>rfl) λF=>F.ok sc_parting_of (λvs H Q E ⟨_,_,_,_,_,_,⟨_,_,_,h,_⟩,_⟩=>absurd h (b8 _)) λd A outer s H vs Q z j ⟨_,_,_,_,_,_,⟨_,_,_,h,_⟩,_⟩=>absurd h (b8 _)
 |n+1=>fXg T B (d_parts_from.mono (fz _ _)) (d_without_names.mono (fz _ _)) (dJc T B d_parts_from d_without_names n)
theorem bJf(T:Tx K mg "parting_of" s_parting_of)(B:Bs mg)(d_parts_from:Df P w K mg base 18 "parts_from" ["part", "others"] (spU K aZf))(d_without_names:Df P w K mg base 18 "without_names" ["one", "row"] (spU K aQj)):Df P w K mg base 33 "parting_of" ["sets", "many"] (spU K aJd):=dJc T B d_parts_from d_without_names 15
end
abbrev s_fewest_parts:Stmt:=top 19
theorem sc_fewest_parts:FnScope ["sets", "many", "parts"] ["sets"] (aQ5 s_fewest_parts):=fsc
def aXf:SpD:=λds S Q=>∃ts:List (List Str),ds=[.tup (ts.map tupS)]/\SrtT ts/\ts.length<=14/\(∀t∈ts,Srt t/\t.length<=6)/\∀r,FW ts r->Q (.tup (r.map flE.e)) S
section
variable{P:aA}{w:aO}{K:ar}{mg:Str->Option ad}{base:bd}{pt cc:Addr}
theorem bZe(T:Tx K mg "fewest_parts" s_fewest_parts)(B:Bs mg)(d_bound_below:Df P w K mg base 38 "bound_below" ["sets"] (spU K aZ8))(d_parting_of:Df P w K mg base 38 "parting_of" ["sets", "many"] (spU K aJd)):Df P w K mg base 39 "fewest_parts" ["sets"] (spU K aXf):=by
 refine aZ1 T sc_fewest_parts (λF=>F.binds λ_ _ _ _ _ _=>us1 λ_=>rfl) ?_ λf cdv A outer s H E J=>⟨_,(aQ2 (aQb (i:=1) sc_fewest_parts.nd rfl (aS rfl) (aQ3 d_bound_below J rfl (aQ0 (dv 0) aQ1)))
  (aQ2 (aQb (i:=2) sc_fewest_parts.nd rfl (aS rfl) (aQ3 d_parting_of J rfl (aQ0 (dv 0) (aQ0 (dv 1) aQ1))))
  (aQ2 (eZ2 cS (eQz J (dv 2) aX6) (aQ2 (fZz (i:=1) sc_fewest_parts.nd rfl (aS rfl) aQ6)
  (aQ4 (aQb (i:=2) sc_fewest_parts.nd rfl (aS rfl) (aQ3 d_parting_of J rfl (aQ0 (dv 0) (aQ0 (dv 1) aQ1)))))))
  (aQ4 (aQ8 (dv 2)))))),?_⟩
 ·rintro ds S Q ⟨ts,rfl,_⟩;rfl
 ·rintro ds S Q ⟨ts,rfl,hs,D,he,q⟩;have d:=λt G=>(he t G).1;refine⟨ts,rfl,hs,D,λt G=>⟨(he t G).1,by have:=(he t G).2;lia⟩,λY L=>?_⟩
  have hb0:=L.sub.length_le;have U:=λs (c:CPs ts s)=>cJ3 hs d L c;have O:(Y.length+1)/2<=ts.length:=by lia
  generalize (Y.length+1)/2=b at U O;have Z:=λt G=>(he t G).2;refine⟨ts,b,rfl,by lia,by lia,D,Z,?_⟩
  refine⟨λm Γ S'=>S'=S/\∃j:Nat,b<=j/\j<=ts.length/\m=ts.length-j/\(∀k,b<=k->k<j->po okP k ts=none)/\Γ=[some (.tup (ts.map tupS)),some (.int j),some (opP (po okP j ts))],⟨_,rfl,b,am _,O,rfl,λk h1 h2=>by lia,rfl⟩,?_⟩
  rintro m Γ S' ⟨rfl,j,hj1,hj2,rfl,N,rfl⟩;cases e:po okP j ts with
  |none =>
   have hj3:j≠ts.length:=λz=>by
    obtain⟨r,J⟩:=gX8 hs d;rw[z,J] at e;cases e
   refine⟨true,rfl,?_⟩;refine⟨j,rfl,1,rfl,ts,j+1,rfl,by lia,by lia,D,Z,ts.length-(j+1),by lia,rfl,j+1,by lia,by lia,rfl,λk h1 h2=>?_,rfl⟩
   rcases bU k j with z|z
   ·exact N k h1 z
   ·have:k=j:=by lia
    rw[this];exact e
  |some r=>exact⟨false,rfl,aQ7 (q r (hQe hs d U e N))⟩
end
end Toy
set_option maxHeartbeats 4000000
namespace Toy
open PySem L2
end Toy
namespace L2
open PySem Toy
theorem hQf(hs:SrtT ts)(hp:ps.flatten.Perm ts)(he:∀p∈ps,p.Sublist ts/\p≠[]/\okP p=true):∃ps',ps'.Perm ps/\CPs ts ps':=by
 have pm:(ps.mergeSort λp q=>leT (p.headD []) (q.headD [])).Perm ps:=gz _ _;have B:=fF (le:=λp q:List (List Str)=>leT (p.headD []) (q.headD [])) (λa b c=>eXv _ _ _) (λa b=>dXk _ _) ps;generalize (ps.mergeSort λp q=>leT (p.headD []) (q.headD []))=ps' at pm B;refine⟨ps',pm,⟨pm.flatten.trans hp,λp h=>he p (pm.mem_iff.mp h),?_⟩⟩;have nd:=(pm.flatten.trans hp).nodup_iff.mpr hs.nodup;have z:ps'.Pairwise λp q=>∀a∈p,a∉q:=by
  have:=(iy.mp nd).2
  exact this.imp λ{p q} h a G D=>h a G a D rfl
 refine(lf.and B z).imp λ{p q} ⟨h1,h2⟩ a b ea eb=>?_;have j:p.headD []=a:=by cases p with|nil=>cases ea|cons x p=>exact aQ ea
 have d:q.headD []=b:=by cases q with|nil=>cases eb|cons x q=>exact aQ eb
 rw[j,d] at h1;unfold leT at h1;rw[cY] at h1;exact HT.lexS_tot h1 λe=>h2 a (fh ea) (e▸fh eb)
theorem bZf{r ps:List (List (List Str))}(hs:SrtT ts)(f:FW ts r)(hp:ps.flatten.Perm ts)(he:∀p∈ps,p.Sublist ts/\p≠[]/\okP p=true):r.length<=ps.length:=by
 obtain⟨d,pm,c⟩:=hQf hs hp he;rw[<- pm.length_eq];exact f.few d c
theorem aJv(hf:SrtT f)(hs:SrtT ts)(h:∀t∈f,t∈ts):f.Sublist ts:=by
 have:=SrtT.ext hf (bE _ hs) λn=>by
  rw[ao];exact⟨λz=>⟨h n z,decide_eq_true z⟩,λz=>of_decide_eq_true z.2⟩
 rw[this];exact bj
theorem eZu(hs:SrtT ts)(hu:SrtT us)(he:∀t∈us,Srt t)(hm:∀t,t∈us↔t∈ts\/t=m)(hn:m∉ts)(f:FW ts r)(f':FW us r'):r.length<=r'.length/\r'.length<=r.length+1:=by
 have J:=λt B=>(hm t).mpr (.inl B);have O:=(hm m).mpr (.inr rfl);have d:∀p:List (List Str),p.Sublist ts->p.Sublist us:=λp hp=>aJv (hs.sublist hp) hu λt B=>J t (hp.subset B);constructor
 ·have c:=f'.cp;have N:=cZq hu he
  have:=bZf (ps:=(r'.map λp=>p.filter λt=>!decide (t=m)).filter λp=>!p.isEmpty) hs f ?_ ?_
  ·refine aH this (aH (bv _ _) ?_);rw[ae];exact am _
  ·have e1:∀l:List (List (List Str)),((l.map λp=>p.filter λt=>!decide (t=m)).filter λp=>!p.isEmpty).flatten=(l.flatten).filter λt=>!decide (t=m):=λl=>by
    induction l with
    |nil=>rfl
    |cons p l U =>
     rw[a8,cH,c6,dw,<- U];cases hp:(p.filter λt=>!decide (t=m)) with
     |nil=>rfl
     |cons a b=>rfl
   rw[e1];refine(c.perm.filter _).trans ?_;have nd:(us.filter λt=>!decide (t=m)).Nodup:=hu.nodup.filter _;refine(cI nd hs.nodup).mpr λt=>?_;rw[ao,hm];constructor
   ·rintro⟨h|h,z⟩
    ·exact h
    ·simp[h] at z
   ·intro h;exact⟨.inl h,by simpa using λe:t=m=>hn (e▸h)⟩
  ·intro q hq;obtain⟨L,hq2⟩:=ao.mp hq;obtain⟨p,hp,rfl⟩:=av.mp L;obtain⟨j,p2,G⟩:=c.each p hp;have D:(p.filter λt=>!decide (t=m))≠[]:=λz=>by rw[z] at hq2;cases hq2
   refine⟨aJv (hu.sublist (bj.trans j)) hs λt B=>?_,D,N p _ j bj D G⟩;obtain⟨h1,h2⟩:=ao.mp B;rcases(hm t).mp (j.subset h1) with z|z
   ·exact z
   ·simp[z] at h2
 ·have c:=f.cp
  have:=bZf (ps:=r++[[m]]) hu f' ?_ ?_
  ·rw[ax] at this;exact this
  ·rw[gB]
   have:([[m]]).flatten=[m]:=rfl
   rw[this];have nd:(ts++[m]).Nodup:=by
    rw[bY];exact⟨hs.nodup,bA.mpr ⟨fy,dM⟩,λx Z y Y=>by rw[aF.mp Y];rintro rfl;exact hn Z⟩
   refine(c.perm.append_right [m]).trans ((cI nd hu.nodup).mpr λt=>?_);rw[a6,aF,hm]
  ·intro p hp;rcases a6.mp hp with h|h
   ·obtain⟨j,p2,G⟩:=c.each p h;exact⟨d p j,p2,G⟩
   ·rw[aF.mp h];exact⟨dN.mpr O,by simp,cZp m⟩
end L2
set_option maxHeartbeats 1000000
namespace Toy
open PySem L2
end Toy
namespace L2
open PySem Toy
def hav(ts:List (List Str))(core:List Str):List (List Str):=ts.filter λt=>has t core
def mt2(p:List (List Str)):List Str:=(p.getD 0 []).filter λx=>decide (x∈p.getD 1 [])
def mtg(hs:List (List Str))(core:List Str):List (List (List Str)):=(ch hs 2).filter λp=>!decide (mt2 p=core)
theorem aZs{hs:List (List Str)}(h:p∈ch hs 2):∃a b,p=[a,b]/\[a,b].Sublist hs:=by
 obtain⟨h1,h2⟩:=ch_mem h
 match p,h1 with
 |[a,b],_=>exact⟨a,b,rfl,h2⟩
theorem aJe(ha:Srt a)(hb:Srt b):(a.filter λx=>decide (x∈b))=b.filter λx=>decide (x∈a) :=
 Srt.ext (bE _ ha) (bE _ hb) λn=>by simp[and_comm]
theorem cJ4(hs':∀t∈hs,Srt t)(nd:hs.Nodup)(hr:r.Sublist hs):aZo (mtg hs core) r↔r.Pairwise λa b=>(a.filter λx=>decide (x∈b))=core:=by
 constructor
 ·intro h;rw[List.pairwise_iff_forall_sublist];intro a b d;refine aK λz=>?_;refine h [a,b] (ao.mpr ⟨aZd (d.trans hr),?_⟩) λx Y=>d.subset Y
  have:mt2 [a,b]≠core:=z
  simp[this]
 ·intro h p Z B;obtain⟨h1,h2⟩:=ao.mp Z;obtain⟨a,b,rfl,d⟩:=aZs h1;have D:a≠b:=by
   have:=nd.sublist d
   simp at this;exact this
  have U:=B a (by simp)
  have O:=B b (by simp)
  have key:(a.filter λx=>decide (x∈b))=core:=by
   obtain⟨i,hi,J⟩:=bf U;obtain⟨j,N,G⟩:=bf O;have L:=cb.mp h;rcases eg i j with z|z|z
   ·have:=L i j hi N z
    rwa [J,G] at this
   ·subst z;exact absurd (J.symm.trans G) D
   ·have:=L j i N hi z
    rw[J,G] at this;rw[aJe (hs' a (hr.subset U)) (hs' b (hr.subset O))];exact this
  have:mt2 [a,b]=core:=key
  simp[this] at h2
theorem fXh(nd:hs.Nodup)(core:List Str):Bar hs (mtg hs core):=λb j=>by
 obtain⟨x,y,rfl,h⟩:=aZs (ao.mp j).1;exact⟨nd.sublist h,am _,λz d=>h.subset d⟩
theorem fXi(hs:List (List Str))(core:List Str):aZo (mtg hs core) []:=λb j d=>by
 obtain⟨x,y,rfl,h⟩:=aZs (ao.mp j).1;exact absurd (d x (by simp)) (by simp)
theorem eZv(hs:List (List Str))(h:hs.length<=14)(core:List Str):(mtg hs core).length<=9999:=by
 have h1:=bv (λp=>!decide (mt2 p=core)) (ch hs 2);have h2:=cZn hs 2
 have:2^(hs.length-1)<=2^13:=d7 (by decide) (by lia)
 show(List.filter _ _).length<=9999;lia
abbrev ltn:Nat->Nat->Bool:=λi j=>decide (i<j)
section
variable(g:Nat->List Str)
def Apr(row:List Nat):Prop:=row.Pairwise λa b=>∀x∈g a,x∉g b
end
def bet(a b:List Nat):Bool:=if a.length=b.length then lexG ltn a b else decide (b.length<a.length)
theorem dJd:∀{a b c:List Nat},lexG ltn a b=true->lexG ltn b c=true->lexG ltn a c=true
 |[],[],_,h,_=>by cases h
 |[],_::_,[],_,h=>by cases h
 |[],_::_,_::_,_,_=>rfl
 |_::_,[],_,h,_=>by cases h
 |_::_,_::_,[],_,h=>by cases h
 |x::a,y::b,z::c,h,h'=>by
  unfold lexG at h h' ⊢
  by_cases j:x=y
  ·subst j;rw[if_pos rfl] at h
   by_cases d:x=z
   ·subst d;rw[if_pos rfl] at h' ⊢;exact dJd h h'
   ·rw[if_neg d] at h' ⊢;exact h'
  ·rw[if_neg j] at h
   by_cases d:y=z
   ·subst d;rw[if_neg j];exact h
   ·rw[if_neg d] at h';have h1:=of_decide_eq_true h;have h2:=of_decide_eq_true h';rw[if_neg (by lia)]
    exact decide_eq_true (by lia)
theorem dJe:∀a:List Nat,lexG ltn a a=false
 |[]=>rfl
 |x::a=>by unfold lexG;rw[if_pos rfl];exact dJe a
theorem cJ5:∀{a b:List Nat},a.length=b.length->lexG ltn a b=false->a≠b->lexG ltn b a=true
 |[],[],_,_,h=>absurd rfl h
 |x::a,y::b,hl,h,d=>by
  unfold lexG at h ⊢
  by_cases e:x=y
  ·subst e;rw[if_pos rfl] at h ⊢;exact cJ5 (by simpa using hl) h λz=>d (by rw[z])
  ·rw[if_neg e] at h;rw[if_neg (bX e)]
   have:=of_decide_eq_false h
   exact decide_eq_true (by lia)
theorem eJ7(h:bet a b=true)(h':bet b c=true):bet a c=true:=by
 unfold bet at h h' ⊢
 by_cases j:a.length=b.length
 ·rw[if_pos j] at h
  by_cases d:b.length=c.length
  ·rw[if_pos d] at h';rw[if_pos (by lia)]
   exact dJd h h'
  ·rw[if_neg d] at h'
   have:=of_decide_eq_true h'
   rw[if_neg (by lia)]
   exact decide_eq_true (by lia)
 ·rw[if_neg j] at h;have h1:=of_decide_eq_true h
  by_cases d:b.length=c.length
  ·rw[if_neg (by lia)]
   exact decide_eq_true (by lia)
  ·rw[if_neg d] at h'
   have:=of_decide_eq_true h'
   rw[if_neg (by lia)]
   exact decide_eq_true (by lia)
theorem gXc(a:List Nat):bet a a=false:=by unfold bet;rw[if_pos rfl];exact dJe a
def bst(b:List Nat)(l:List (List Nat)):List Nat:=l.foldl (λb r=>if bet r b=true then r else b) b
theorem bZg:∀(l:List (List Nat)) (b:List Nat),bst b l∈b::l/\∀r∈b::l,bet r (bst b l)=false
 |[],b=>⟨by simp[bst],λr j=>by rw[aF.mp j];exact gXc _⟩
 |x::l,b=>by
  have e:bst b (x::l)=bst (if bet x b=true then x else b) l:=rfl
  obtain⟨h1,h2⟩:=bZg l (if bet x b=true then x else b);rw[e];refine⟨?_,λr j=>?_⟩
  ·rcases aw.mp h1 with z|z
   ·rw[z];split <;> simp
   ·exact ak _ (ak _ z)
  ·have h0:=h2 _ aj;rcases aw.mp j with rfl|j
   ·by_cases d:bet x r=true
    ·rw[if_pos d] at h0 ⊢;cases z:bet r (bst x l) with
     |false=>rfl
     |true=>rw[eJ7 d z] at h0;cases h0
    ·rw[if_neg d] at h0 ⊢;exact h0
   ·rcases aw.mp j with rfl|j
    ·by_cases d:bet r b=true
     ·rw[if_pos d] at h0 ⊢;exact h0
     ·rw[if_neg d] at h0 ⊢;cases z:bet r (bst b l) with
      |false=>rfl
      |true =>
       exfalso;rcases aw.mp h1 with y|y
       ·rw[if_neg d] at y;rw[y] at z;exact d z
       ·rw[if_neg d] at y
        have:bet (bst b l) b=true\/bst b l=b:=by
         rcases Classical.em (bst b l=b) with q|q
         ·exact .inr q
         ·left
          unfold bet at h0 ⊢
          by_cases B:b.length=(bst b l).length
          ·rw[if_pos B] at h0;rw[if_pos B.symm];exact cJ5 B h0 (bX q)
          ·rw[if_neg B] at h0;rw[if_neg (bX B)]
           have:=of_decide_eq_false h0
           exact decide_eq_true (by lia)
        rcases this with q|q
        ·exact d (eJ7 z q)
        ·rw[q] at z;exact d z
    ·exact h2 r (ak _ j)
end L2
namespace L2
open PySem PySem.Spec PyProof.Rows
section
variable{prog:aA}{w:aO}{A:aW}{R:Result->ai->Prop}{s0:ai}{vs:List ad}{I S q:Addr}{fp:List Addr}{St:Nat->bd->Prop}{bt:Nat->Nat->Bool}{kw:List (Str×ad)}{Key:Addr->Nat->ad->bd->Prop}
theorem dJf(W:Walks prog w A.in1 I fp [I] vs.length (λi v=>vs[i]?=some v) St)(hI:s0.heap.objs.size<=I)(hIS:I<S)(hSf:S∉fp)
  (kk:∀i x h h',Key (S+1) i x h->Kp s0.heap h'->(∀b o,S+1<=b->h.get? b=some o->h'.get? b=some o)->Key (S+1) i x h')
  (turn:∀i v h tk,vs[i]?=some v->Kp s0.heap h->S+1<=h.objs.size->aD (aE prog w) A.in1 (call (.ref q) [v]) (λx s'=>∃h' tk',s'={s0 with heap:=h',toks:=tk'}/\Kp h h'/\Key (S+1) i x h') (λ_ _=>False) {s0 with heap:=h,toks:=tk})
  (cmp:∀i j vi vj h tk,Key (S+1) i vi h->Key (S+1) j vj h->Kp s0.heap h->HT.LtAt A.in1 {s0 with heap:=h,toks:=tk} vi vj (bt i j))
  (fin:∀v h tk,vs[fT bt (vs.length-1)]?=some v->Kp s0.heap h->R (.ok (.ret v)) {s0 with heap:=h,toks:=tk}) :
  ∀(left j:Nat) (h:bd) (tk:Nat) (vb xb:ad) (c:Nat),j+1+left=vs.length->Kp s0.heap h->St (j+1) h->vs[fT bt j]?=some vb->Key (S+1) (fT bt j) xb h->h.get? S=some (bK "list" #[vb,xb] c) ->
   fv (aE prog w) A (.builtin "min.loop" ⟨[.ref I,.ref q,.ref S],kw⟩) R {s0 with heap:=h,toks:=tk}:=by
 have hSI:=fI hIS;have nI:∀b o,s0.heap.get? b=some o->b≠I:=λb o e z=>absurd (aC e) (by rw[z];exact iC.mpr hI)
 have nS:∀b o,s0.heap.get? b=some o->b≠S:=λb o e z=>absurd (aC e) (by rw[z];exact iC.mpr (aH hI (gk hIS)))
 have word:(toString "min"++toString ".loop")="min.loop":=by decide
 intro left
 induction left with
 |zero =>
  intro j h tk vb xb c hj kp st O ky hs;refine b9 F.entry_min_loop ?_;rw[bH F.plain_min_loop _];refine aa (d6 hs rfl ?_);refine aa (fH (W.done {s0 with heap:=h,toks:=tk} _ _ ((hj)▸st) λh1 J U=>?_))
  have D:=U S _ (by simpa using hSI) hs
  refine aa ?_;refine eT D rfl (aa (wpAny_letGo (ag (fin vb _ J ?_ λb o e=>?_))))
  ·have e:vs.length-1=j:=by lia
   rw[e];exact O
  ·exact(bg _ _ (bX (nS b o e))).trans (U b o (by simpa using nI b o e) (kp b o e))
 |succ left ih =>
  intro j h tk vb xb c hj kp st O ky hs;refine b9 F.entry_min_loop ?_;rw[bH F.plain_min_loop _];refine aa (d6 hs rfl ?_);refine aa (fH (W.item (j+1) {s0 with heap:=h,toks:=tk} _ _ (by lia) st λv h1 J hv st1 U=>?_))
  have D:=U S _ (by simpa using hSI) hs
  have L:Kp s0.heap h1:=λb o e=>U b o (by simpa using nI b o e) (kp b o e)
  have ky1:=kk _ _ _ _ ky L λb o O e=>U b o (by simpa using (λz=>absurd O (by rw[z];exact Nat.not_le.mpr (cK hIS)))) e
  refine aa (fH (bF (cO (turn (j+1) v h1 J hv L (aC D)) (λx s'' he=>?_) λ_ _ hF=>hF.elim)));obtain⟨h2,G,rfl,B,kx⟩:=he;have d:=L.trans B;have N:=B _ _ D;have Y:=W.frame _ _ _ st1 λb _ o e=>B b o e;have Z:=kk _ _ _ _ ky1 d λb o _ e=>B b o e;refine aa (fH (bF (aa (cmp (j+1) (fT bt j) x xb h2 G kx Z d _ _ _ _ ?_))));refine aa (bF (cJ (aa (wpAny_letGo (ag ?_)))));cases e:bt (j+1) (fT bt j) with
  |true =>
   rw[if_pos rfl];refine aa ?_;refine eT N rfl (aa (wpAny_letGo ?_));rw[word];have hs3:=eU N λ_=>#[v,x];have kp4:Kp s0.heap (h2.update S (bw λ_=>#[v,x])):=λb o eo=>(bg _ _ (bX (nS b o eo))).trans (d b o eo);refine ag ⟨dl F.plain_min_loop _,ih (j+1) _ G v x _ (by lia) kp4 (W.frame _ _ _ Y λb hb' o eo=>?_) ?_ ?_ hs3⟩
   ·exact(bg _ _ (λz:S=b=>hSf (by rw[z];exact hb'))).trans eo
   ·simp only[fT,e,if_true];exact hv
   ·simp only[fT,e,if_true];exact kk _ _ _ _ kx kp4 λb o O e=>(bg _ _ (aN O)).trans e
  |false =>
   rw[if_neg (by simp)]
   refine aa (wpAny_letGo ?_);rw[word];refine ag ⟨dl F.plain_min_loop _,ih (j+1) h2 G vb xb c (by lia) d Y ?_ ?_ N⟩
   ·simp only[fT,e,aJ,if_false];exact O
   ·simp only[fT,e,aJ,if_false];exact Z
theorem dJg{E:ad->ai->Prop}{x d:ad}{Q:ad->ai->Prop}{s:ai}(hd:vs=[]->∀h tk,Kp s.heap h->Q d {s with heap:=h,toks:=tk})
  (it:∀R':ad->ai->Prop,(∀I h fp St,s.heap.objs.size<=I->I∈fp->(∀b∈fp,b<h.objs.size)->Kp s.heap h->St 0 h->Walks prog w A.in1 I fp [I] vs.length (λi v=>vs[i]?=some v) St->R' (.ref I) {s with heap:=h})->aD (aE prog w) A.in1 (iW x) R' E s)
  (kk:∀m i x h h',Key m i x h->Kp s.heap h'->(∀b o,m<=b->h.get? b=some o->h'.get? b=some o)->Key m i x h')
  (turn:∀m i v h tk,vs[i]?=some v->Kp s.heap h->m<=h.objs.size->aD (aE prog w) A.in1 (call (.ref q) [v]) (λx s'=>∃h' tk',s'={s with heap:=h',toks:=tk'}/\Kp h h'/\Key m i x h') (λ_ _=>False) {s with heap:=h,toks:=tk})
  (cmp:∀m i j vi vj h tk,Key m i vi h->Key m j vj h->Kp s.heap h->HT.LtAt A.in1 {s with heap:=h,toks:=tk} vi vj (bt i j))
  (fin:∀v h tk,vs[fT bt (vs.length-1)]?=some v->Kp s.heap h->Q v {s with heap:=h,toks:=tk}) :
  aD (aE prog w) A (call (.builtin "min") [x] [(aL "key",.ref q),(aL "default",d)]) Q E s:=by
 have word:(toString "min"++toString ".loop")="min.loop":=by decide
 have args:argsOk "min" ⟨[x],[(aL "key",.ref q),(aL "default",d)]⟩:=by kernel_rfl
 refine kmk_tree F.kind_min F.plain_min F.entry_min args ?_;have bp:je "min" ["key", "default"] 0 ⟨[],[(aL "key",.ref q),(aL "default",d)]⟩=pure [some (.ref q),some d]:=rfl;refine aa (jJ bp ?_);refine aa (ag ?_);refine aa (it _ λI h fp St hI hIf hfp kp st W=>aa (bC ?_));rw[word];have hSf:=λz=>cT _ (hfp _ z);have J:=hfp I hIf;have hs1:(h.push (bK "list" #[] 0)).get? h.objs.size=some (bK "list" #[] 0):=au _ rfl;have U:Kp s.heap (h.push (bK "list" #[] 0)):=λb o e=>af _ (kp b o e);have L:St 0 (h.push (bK "list" #[] 0)):=W.frame _ _ _ st λb _ o e=>af _ e;have hSI:=fI J;have nI:∀b o,s.heap.get? b=some o->b≠I:=λb o e z=>absurd (aC e) (by rw[z];exact iC.mpr hI)
 have nS:∀b o,s.heap.get? b=some o->b≠h.objs.size:=λb o e z=>absurd (aC e) (by rw[z];exact iC.mpr (aH hI (gk J)))
 refine ag ⟨dl F.plain_min_loop _,b9 F.entry_min_loop ?_⟩;rw[bH F.plain_min_loop _];refine aa (d6 hs1 rfl ?_);by_cases G:vs=[]
 ·refine aa (fH (W.done {s with heap:=h.push (bK "list" #[] 0)} _ _ (by rw[G];exact L) λh1 B k1=>?_))
  exact aa (en (ag (hd G h1 B λb o e=>k1 b o (by simpa using nI b o e) (U b o e))))
 ·have hn:=fx.mpr G;refine aa (fH (W.item 0 {s with heap:=h.push (bK "list" #[] 0)} _ _ hn L λv h1 B hv st2 k1=>?_))
  have Z:=k1 h.objs.size _ (by simpa using hSI) hs1
  have O:Kp s.heap h1:=λb o e=>k1 b o (by simpa using nI b o e) (U b o e)
  refine aa (fH (bF (cO (turn (h.objs.size+1) 0 v h1 B hv O (aC Z)) (λx s'' he=>?_) λ_ _ hF=>hF.elim)));obtain⟨h2,tk2,rfl,D,kx⟩:=he;have kp4:=O.trans D;have Y:=D _ _ Z;have st3:=W.frame _ _ _ st2 λb _ o e=>D b o e;refine aa ?_;refine eT Y rfl ?_;rw[word];have hs4:=eU Y λ_=>#[v,x];have N:Kp s.heap (h2.update h.objs.size (bw λ_=>#[v,x])):=λb o e=>(bg _ _ (bX (nS b o e))).trans (kp4 b o e);refine ag ⟨dl F.plain_min_loop _,dJf W hI J hSf (kk _) (turn _) (cmp _) fin (vs.length-1) 0 _ tk2 v x _ (by lia) N (W.frame _ _ _ st3 λb hb' o eo=>?_) hv ?_ hs4⟩
  ·exact(bg _ _ (λz:h.objs.size=b=>hSf (by rw[z];exact hb'))).trans eo
  ·exact kk _ _ _ _ _ kx N λb o hb e=>(bg _ _ (aN hb)).trans e
end
section
variable{prog:aA}{w:aO}{A:aW}{s:ai}{mg mb:Str->Option ad}{E:ad->ai->Prop}
abbrev keyB(p1 p2 p3 p4 p5 p6:Pos)(k:Nat):Expr:=.Tuple [.UnaryOp .USub (.Call (.Name "len" p1) [.Name "some" p2] [] p3) p4,.Name "some" p5] k p6
theorem eZw(hk:env.scope.kind=.function)(h1:env.kindOf "some"=some .local)(h2:env.kindOf "len"=some .globalImplicit)
  (hg:s.heap.Ns env.globals mg) (hm:mg "len"=none) (hb:s.heap.Ns env.builtins mb) (hv:mb "len"=some (.builtin "len")) (hn:s.heap.Ns env.locals m) (hs:m "some"=some (.ref a)) (ht:gV s.heap a its) (hz:(its.size:Int)<2^63)
  (h:∀t tk,Q (.ref s.heap.objs.size) {s with heap:=s.heap.push {cls:=.type "tuple",data:=.seq #[.int (-its.size) t,.ref a]},toks:=tk}) :
  aD (aE prog w) A (eval (keyB p1 p2 p3 p4 p5 p6 k) env) Q E s:=by
 have j:cC p6 (az [.UnaryOp .USub (.Call (.Name "len" p1) [.Name "some" p2] [] p3) p4,.Name "some" p5] env)=[(false,eval (.UnaryOp .USub (.Call (.Name "len" p1) [.Name "some" p2] [] p3) p4) env),(false,eval (.Name "some" p5) env)]:=by rfl
 refine wpAny_Tuple_spliced ?_;rw[j];refine fK (wpAny_UnaryOp (fL (gf hk h2 (jM hg hm hb hv ?_))));refine iB ?_ (by rfl) (by rfl)
 have d:cC p3 (az [.Name "some" p2] env)=[(false,eval (.Name "some" p2) env)]:=by rfl
 rw[d];refine fK (gQ (eW hk h1 hn hs (g7 ?_)));refine len_tuple ht hz (neg_int ?_);refine fK (gQ (eW hk h1 hn hs (g7 ?_)));exact⟨show 2<=sizeLine by decide,h _ _⟩
abbrev keyP(p:Pos):Arguments:={posonlyargs:=[],args:=[{arg:="some",annotation:=none,pos:=p}],vararg:=none,kwonlyargs:=[],kw_defaults:=[],kwarg:=none,defaults:=[]}
theorem eZx(hk:scope.kind=.function)(hco:scope.isCoroutine=false)(hgen:scope.isGenerator=false)
  (h1:scope.names.lookup ("some":Str)=some .local) (h2:scope.names.lookup ("len":Str)=some .globalImplicit) (hcell:∀x∈scope.names,x.2≠.cell) (hroom:A.depth<g6)
  (ho:s.heap.get? f=some (kJ "<lambda>" qual (keyP p0) (keyB p1 p2 p3 p4 p5 p6 k) scope [] pm c ctv)) (hcd:s.heap.CodeRec (.ref c) qual) (lim:s.heap.NoLimit) (hg:s.heap.Ns aX mg) (hm:mg "len"=none) (hb:s.heap.Ns iz mb) (hv:mb "len"=some (.builtin "len")) (ht:gV s.heap a its) (hz:(its.size:Int)<2^63) :
  aD (aE prog w) A (call (.ref f) [.ref a]) (λx s'=>∃h' tk',s'={s with heap:=h',toks:=tk'}/\Kp s.heap h'/\∃b t,x=.ref b/\s.heap.objs.size<=b/\gV h' b #[.int (-its.size) t,.ref a]) E s:=by
 refine wpAny_call (PySem.W.kla_callFunE hroom ho rfl hco hgen rfl hcd ?_);have d:bindArgs (PySem.W.kla_fn "<lambda>" qual (keyP p0) (keyB p1 p2 p3 p4 p5 p6 k) scope [] pm (.ref c) ctv) ⟨[.ref a],[]⟩=pure [(("some":Str),fV a)]:=by rfl
 rw[d];refine ag (wpAny_newFunctionEnv_cells hk (λx z=>?_) λenv he s1 x=>?_)
 ·rw[aF.mp z];exact .inl h1
 subst he;obtain⟨h',tk',rfl,kp⟩:=x.done;refine⟨lim.keeps kp,PySem.W.kla_codeExpr ?_⟩;have B:=h1;refine eZw hk h1 h2 (hg.keeps kp) hm (hb.keeps kp) hv x.toInCall.ns ?_ (ht.keeps kp) hz λt j=>?_
 ·exact bindL_get (P:=["some"]) (vs:=[.ref a]) (i:=0) (by simp) rfl rfl h1
 ·refine⟨_,j,rfl,λb o e=>af _ (kp b o e),_,t,rfl,?_,?_⟩
  ·exact gk x.toInCall.ns.lt
  ·exact⟨_,au _ rfl,rfl,_,rfl⟩
end
structure TabF(base:bd)(mg:Str->Option ad)(c P:Addr):Prop where
 hd:PySem.W.CodeHd base c P
 bm:∃bm ob,mg "__builtins__"=some (.ref bm)/\bm≠iz/\base.get? bm=some ob/\ob.cls=.type "module"/\ob.dict=some iz/\ob.data=.plain
def Grow(P:Addr)(lp:Pos)(qual:Str)(ps:Array ad)(H H':Hp):Prop:=H'=H \/
 ∃c oc vs t,H c=none/\c≠P/\H'=upd (upd H P (.tbl (ps++#[eJ lp.line,eJ lp.col,.ref c]))) c (cdO c oc)/\oc.data=.fields vs/\vs[1]?=some (.str qual t)/\codeAmong lp ps.toList=none
def TbV(H:Hp)(lp:Pos)(qual:Str)(ps:Array ad):Prop:=TriplesOk ps.toList/\(codeAmong lp ps.toList=none\/∃c oc,codeAmong lp ps.toList=some (.ref c)/\H c=some (cdO c oc)/\∃vs t,oc.data=.fields vs/\vs[1]?=some (.str qual t))
section
variable{X:Cx}{pins:List (Addr×Obj)}{σ:St}{H:Hp}{s:ai}{E:ad->ai->Prop}
theorem eZy(I:Inv X pins σ H s)(hP:H P=some (.tbl ps))(tb:TbV H lp qual ps)
  (hcode:X.env.code=.ref c) (T:TabF X.base X.mg c P) (hq:X.env.qual ++ "<lambda>"=qual) (hcl:js scope X.env=pure []) (hdef:defaultsOf params X.env=([],[]))
  (h:∀f c' pm ctv H' s',Inv X pins σ H' s'->Grow P lp qual ps H H'->s'.heap.get? f=some (kJ "<lambda>" qual params body scope [] pm c' ctv)->s'.heap.CodeRec (.ref c') qual->Q (.ref f) s') :
  aD (aE X.prog X.w) X.A (eval (.Lambda params body scope lp) X.env) Q E s:=by
 obtain⟨D,tb⟩:=tb;obtain⟨bm,ob,b1,b2,b3,b4,b5,b6⟩:=T.bm;have O:=I.hok P _ hP;have nP:∀b o,X.base.get? b=some o->b≠P:=λb o e z=>by
  have:=(I.bs b o e).2
  rw[z,hP] at this;cases this
 have hgP:aX≠P:=by
  obtain⟨o,es,ep,e,_⟩:=I.mod.glob;exact nP _ _ e
 have hbG:bm≠aX:=λq=>by
  obtain⟨o,es,ep,e,hd,_⟩:=I.mod.glob;rw[q,e] at b3;cases b3;rw[hd] at b6;cases b6
 have BA:s.heap.BuiltinsAt X.mg P:=⟨bm,ob,b1,b2,hbG,nP _ _ b3,I.bk _ _ b3,b4,b5,b6⟩;refine PySem.W.kla_eval hdef ?_;rw[hq];rcases tb with hn|⟨c',oc,hf,hc,vs,t,d1,d2⟩
 ·refine PySem.W.kla_makeFunction hcl I.ok.glob (I.mod.glob.keeps I.bk) hcode (T.hd.keeps I.bk) O D hn hgP BA λc' ctv h' tk hx L hlt J G=>?_;obtain⟨c2,oc,vs,t,e2,d,hd,hv⟩:=J;cases e2;have hfr:=I.hok.fresh L;have N:c'≠P:=λz=>by rw[z,hP] at hfr;cases hfr
  have bP:∀b,H b=none->b≠P:=λb e z=>by rw[z,hP] at e;cases e
  have U:∀b u,H b=some u->b≠c':=λb u e z=>by rw[z,hfr] at e;cases e
  have lc:∀b o,s.heap.get? b=some o->b≠c':=λb o e=>aN (bB (aC e) L);have Y:∀(fo:Obj) b o,b≠P->s.heap.get? b=some o->(h'.push fo).get? b=some o:=λfo b o n e=>af _ (hx b o n e);refine h _ c' _ ctv (upd (upd H P (.tbl (ps++#[eJ lp.line,eJ lp.col,.ref c']))) c' (cdO c' oc)) _ (I.un ⟨?_,?_,?_,?_,?_,?_,?_⟩ ?_) (.inr ⟨c',oc,vs,t,hfr,N,rfl,hd,hv,hn⟩) (au _ rfl) ⟨c',oc,vs,t,rfl,af _ d,hd,hv⟩
  ·exact λb o e n _ _=>Y _ b o (bP b n) e
  ·exact λb o e n _ _=>⟨o.slots,Y _ b o (bP b n) e⟩
  ·exact λb o e n _=>by rw[upd_ne (lc b o e),upd_ne (bP b n)];exact n
  ·intro b o e _
   by_cases z:b=P
   ·subst z;exact⟨_,af _ G⟩
   ·exact⟨o,Y _ b o z e⟩
  ·intro b xs e;have z:b≠P:=λz=>by rw[z,hP] at e;cases e
   rw[upd_ne (U b _ e),upd_ne z];exact e
  ·intro b o u e;have z:b≠P:=λz=>by rw[z,hP] at e;cases e
   rw[upd_ne (U b _ e),upd_ne z];exact e
  ·intro b qs e
   by_cases z:b=P
   ·subst z;rw[hP] at e;cases e;exact⟨_,by rw[upd_ne (bX N),aQ9]⟩
   ·exact⟨#[],by rw[upd_ne (U b _ e),upd_ne z,e];simp⟩
  ·intro b u e
   by_cases z1:b=c'
   ·subst z1;rw[aQ9] at e;cases e;exact⟨af _ d,⟨_,af _ d⟩,λh1 h2 q k=>k _ q⟩
   ·rw[upd_ne z1] at e
    by_cases Z:b=P
    ·subst Z;rw[aQ9] at e;cases e;exact af _ G
    ·rw[upd_ne Z] at e;refine(I.hok b u e).stay (λB o' hb' e'=>?_) (λB e'=>?_) (λB xs e'=>?_)
     ·refine Y _ B o' ?_ e';rcases hb' with z|z
      ·rw[z];exact Z
      ·intro j;rw[j,hP] at z;cases z
     ·have j:B≠P:=λj=>by rw[j,hP] at e';cases e'
      rw[upd_ne (U B _ e'),upd_ne j];exact e'
     ·have j:B≠P:=λj=>by rw[j,hP] at e';cases e'
      rw[upd_ne (U B _ e'),upd_ne j];exact e'
 ·refine PySem.W.kla_makeFunctionHit hcl I.ok.glob (I.mod.glob.keeps I.bk) hcode (T.hd.keeps I.bk) O D hf BA λctv h' tk hk hsz=>?_;have k2:∀(fo:Obj) b o,s.heap.get? b=some o->(h'.push fo).get? b=some o:=λfo b o e=>af _ (hk b o e);have d:=(I.hok c' _ hc).1;exact h _ c' _ ctv H _ (I.kept (k2 _)) (.inl rfl) (au _ rfl) ⟨c',oc,vs,t,rfl,k2 _ _ _ d,d1,d2⟩
end
def KeyV(K:Fg)(H:Hp)(us:List V)(ln:Nat->Nat)(bt:Nat->Nat->Bool):Prop :=
 (∀(i:Nat) (x:V),us[i]?=some x->∃b vs,x=.ref b/\SqT K H b vs/\vs.length=ln i) /\
 ∀{X:Cx}{pins:List (Addr×Obj)}{σ:St}{s:ai},Inv X pins σ H s->X.K=K->∀A:aW,A.units+9<bR->∀i j x y u v t t',us[i]?=some x->us[j]?=some y->RelV x u->RelV y v ->
  HT.LexAt A s [.int (-(ln i:Int)) t,u] [.int (-(ln j:Int)) t',v] (bt i j)
section
variable{X:Cx}{K:Fg}{pos:Pos}{k:Nat}
theorem eZz{σ:St}{Q:VK}
  (hk:scope.kind=.function) (hco:scope.isCoroutine=false) (hgen:scope.isGenerator=false)
  (h1:scope.names.lookup ("some":Str)=some .local) (h2:scope.names.lookup ("len":Str)=some .globalImplicit) (hcell:∀x∈scope.names,x.2≠.cell)
  (I:Inv X pins σ H s) (hK:X.K=K) (hu:X.A.units+20<bR) (hdp:X.A.depth<g6) (hc:X.calm=true) (hm:X.mg "len"=none)
  (ho:s.heap.get? f=some (kJ "<lambda>" qual (keyP p0) (keyB p1 p2 p3 p4 p5 p6 k) scope [] pm c ctv)) (hcd:s.heap.CodeRec (.ref c) qual)
  (sq:SqL K H a us\/SqT K H a us) (cv:KeyV K H us ln bt) (ry:RelV y d) (hd:us=[]->Q y H) (q:∀v,us[fT bt (us.length-1)]?=some v->Q v H) :
  aD (aE X.prog X.w) X.A (call (.builtin "min") [.ref a] [(aL "key",.ref f),(aL "default",d)]) (λv s'=>∃x H',Inv X pins σ H' s'/\RelV x v/\Q x H') X.xe s:=by
 subst hK;have hh:X.A.in1.handled=none:=by simp[I.ok.hd hc]
 obtain⟨mb,m1,m2⟩:=I.mod.blt;have main:∀(its:List ad),Vals us its->(∀R':ad->ai->Prop,(∀Y h fp St,s.heap.objs.size<=Y->Y∈fp->(∀b∈fp,b<h.objs.size)->Kp s.heap h->St 0 h->Walks X.prog X.w X.A.in1 Y fp [Y] its.length (λi v=>its[i]?=some v) St->R' (.ref Y) {s with heap:=h})->aD (aE X.prog X.w) X.A.in1 (iW (.ref a)) R' X.xe s) ->
   aD (aE X.prog X.w) X.A (call (.builtin "min") [.ref a] [(aL "key",.ref f),(aL "default",d)]) (λv s'=>∃x H',Inv X pins σ H' s'/\RelV x v/\Q x H') X.xe s:=by
  intro its G it;have hl:=G.length;have at_:∀i v,its[i]?=some v->∃x,us[i]?=some x/\RelV x v:=λi v hi=>by
   have i1:i<its.length:=by
    rcases bU i its.length with z|z
    ·exact z
    ·rw[bL z] at hi;cases hi
   obtain⟨u1,e1,r1⟩:=G.get (ah (show i<us.length by lia))
   rw[hi] at e1;cases e1;exact⟨_,ah (by lia),r1⟩
  refine dJg (bt:=bt) (Key:=λm i x h=>∃b t v,x=.ref b/\m<=b/\its[i]?=some v/\gV h b #[.int (-(ln i)) t,v]) ?_ it ?_ ?_ ?_ λv h Z hv kp=>?_
  ·exact λz h Z kp=>⟨y,H,I.kept kp,ry,hd (by subst z;exact bD (by simpa using hl))⟩
  ·rintro m i x h h' ⟨b,t,v,e,D,hi,o,eo,r⟩ kp kk;exact⟨b,t,v,e,D,hi,o,kk b o D eo,r⟩
  ·intro m i v h Z hi kp hmh;obtain⟨x,N,rx⟩:=at_ i v hi;obtain⟨b,vs,rfl,st,U⟩:=cv.1 i x N;cases rx;obtain⟨ws,J,pl,hz⟩:=I.tuple st;have O:ws.toArray.size=ln i:=by rw[<- U,J.length];simp
   refine cO (eZx hk hco hgen h1 h2 hcell (hdp) (kp _ _ ho) ?_ (I.nolimit.keeps kp) ((I.mod.glob.keeps I.bk).keeps kp) hm ((m1.keeps I.bk).keeps kp) ((m2 _ (by decide)).trans dQv) (pl.keeps kp) ?_) (λx s' hh=>?_) λ_ _ z=>z
   ·obtain⟨c0,o0,vs0,t0,e0,g0,r0⟩:=hcd;exact⟨c0,o0,vs0,t0,e0,kp _ _ g0,r0⟩
   ·have:=J.length
    rw[O,<- U];have z2:=hz;have z3:sizeLine<2^62:=by decide
    lia
   ·obtain⟨h',tk',e,kp',b',t,ex,hb',L⟩:=hh;rw[O] at L;exact⟨h',tk',e,kp',b',t,_,ex,aH hmh hb',hi,L⟩
  ·rintro m i j vi vj h Z ⟨b,t,v,rfl,_,hi,ti⟩ ⟨b',t',v',rfl,_,hj,tj⟩ kp;obtain⟨x,N,rx⟩:=at_ i v hi;obtain⟨x',hx',rx'⟩:=at_ j v' hj;exact HT.ltAt_tup ti tj (cv.2 (I.kept kp) rfl X.A.in1.in1 (by lia) i j x x' v v' t t' N hx' rx rx') (by lia)
  ·obtain⟨x,N,rx⟩:=at_ _ v hv;exact⟨_,H,I.kept kp,rx,q _ (by rw[hl];exact N)⟩
 rcases sq with sq|sq
 ·obtain⟨its,G,p,hz⟩:=I.list sq;refine main its G λR' h=>f7 p.isList ?_;obtain⟨o,n,ho,_⟩:=id p;have B:=aC ho;have W:=Walks.list (prog:=X.prog) (w:=X.w) hh s.heap.objs.size a (aN B) its.toArray;have e1:its.toArray.size=its.length:=by simp
  have e2:(λi v=>its.toArray[i]?=some v)=(λ(i:Nat) v=>its[i]?=some v):=by funext i v;simp
  rw[e1,e2] at W;exact h _ _ _ _ (am _) (by simp) (λb D=>by
   rw[cz];rcases aw.mp D with rfl|D
   ·exact fA _
   ·rw[aF.mp D];exact cK B) (λb o e=>af _ e) ⟨⟨_,au _ rfl,rfl,rfl⟩,p.isList.at λo e=>af _ e⟩ W
 ·obtain⟨its,G,p,hz⟩:=I.tuple sq;refine main its G λR' h=>fN (p) ?_
  obtain⟨o,ho,_⟩:=id p;have B:=aC ho;have W:=Walks.tuple (prog:=X.prog) (w:=X.w) hh s.heap.objs.size a (aN B) its.toArray;have e1:its.toArray.size=its.length:=by simp
  have e2:(λi v=>its.toArray[i]?=some v)=(λ(i:Nat) v=>its[i]?=some v):=by funext i v;simp
  rw[e1,e2] at W;exact h _ _ _ _ (am _) (by simp) (λb D=>by
   rw[cz];rcases aw.mp D with rfl|D
   ·exact fA _
   ·rw[aF.mp D];exact cK B) (λb o e=>af _ e) ⟨⟨_,au _ rfl,rfl,rfl⟩,(show s.heap.IsTuple a its.toArray from p).at λo e=>af _ e⟩ W
def hQg(K:Fg)(P:Addr)(lp:Pos)(qual:Str)(te:TE)(j:Nat):TE:=fun σ H Q=>te σ H λx H1=>∃ps,H1 P=some (.tbl ps)/\TbV H1 lp qual ps/\∃y,σ[j]?=some (some y)/\∀H2,Grow P lp qual ps H1 H2 ->
 ∃a us ln bt,x=.ref a/\(SqL K H2 a us\/SqT K H2 a us)/\KeyV K H2 us ln bt/\(us=[]->Q y H2)/\∀v,us[fT bt (us.length-1)]?=some v->Q v H2
theorem fXj{e:Expr}{c P:Addr}{qual xd:Str}{scope:Scope}{p p0 p1 p2 p3 p4 p5 p6 lp kp kp2 pd:Pos}{kk j:Nat}{te:TE}(hr:Room k X.A)(hg:Gl X "min")(hm:X.mg "min"=none)(hml:X.mg "len"=none)
  (he:PE X e te) (hN:X.N[j]?=some xd) (hv:Vis X.env.scope xd) (hcode:X.env.code=.ref c) (T:TabF X.base X.mg c P) (hq:X.env.qual ++ "<lambda>"=qual)
  (hk:scope.kind=.function) (hco:scope.isCoroutine=false) (hgen:scope.isGenerator=false)
  (h1:scope.names.lookup ("some":Str)=some .local) (h2:scope.names.lookup ("len":Str)=some .globalImplicit) (hcell:∀x∈scope.names,x.2≠.cell) (hcl:js scope X.env=pure []) (hK:X.K=K:=by rfl) (hc:X.calm=true:=by rfl)
  (hd:(xd==("__debug__":Str))=false:=by decide) (hcd:(xd==("__classdict__":Str))=false:=by decide)
  (g1:cC pos (az [e] X.env)=[(false,eval e X.env)]:=by rfl) (g2:(jq pos (gi [⟨some "key",.Lambda (keyP p0) (keyB p1 p2 p3 p4 p5 p6 kk) scope lp,kp⟩,⟨some "default",.Name xd pd,kp2⟩] X.env)).filterMap (·.1)=[("key":Str),"default"]:=by rfl) :
  PE X (.Call (.Name "min" p) [e] [⟨some "key",.Lambda (keyP p0) (keyB p1 p2 p3 p4 p5 p6 kk) scope lp,kp⟩,⟨some "default",.Name xd pd,kp2⟩] pos) (hQg K P lp qual te j):=by
 intro pins s σ H Q I h;refine fL (ld_blt I hg hm (rfl) ?_ (by decide) (by decide))
 have h3:(cC pos (az [e] X.env)).any (·.1)=false:=by rw[g1];rfl
 have h4:cC pos (az [e] X.env)=(false,eval e X.env)::cC pos (az [] X.env):=by rw[g1];rfl
 refine callWith_kw ?_ h4 h3 rfl rfl;rw[g1,g2];refine fK (thn (he pins s σ H _ I h) λv s1 ⟨x,H1,I1,r1,ps,hP,tb,y,ey,U⟩=>g7 ?_);refine kws_cons (eZy I1 hP tb hcode T hq hcl rfl λf c' pm ctv H2 s2 D gr Y J=>?_);obtain⟨a,us,ln,bt,e1,sq,cv,O,L⟩:=U H2 gr;subst e1;cases r1;obtain⟨m,Z,hl⟩:=id D.loc;obtain⟨u,r,l⟩:=hl j xd y hN ey hv;have go:=eZz hk hco hgen h1 h2 hcell D hK (by have:=hr.un;lia) hr.depth hc hml Y J sq cv r O L
 rcases l with⟨d,G⟩|⟨d,cc,B,z⟩
 ·exact kws_cons (gQ (eW D.ok.kind d Z G (kws_nil go)) hd)
 ·rcases d with d|d
  ·exact kws_cons (gQ (i7 D.ok.kind d B z (kws_nil go)) hd)
  ·exact kws_cons (gQ (wpAny_loadName_free D.ok.kind d B z (kws_nil go) hcd) hd)
end
section
variable{K:Fg}{F:Am}{S:Sto}{H H':Hp}{P:Addr}{lp:Pos}{qual:Str}{ps:Array ad}
theorem Rp.tb(r:Rp K F S H)(h:S P=some (.tb lp qual)):∃ps,H P=some (.tbl ps)/\TbV H lp qual ps:=by
 obtain⟨ps,e,h1,h2⟩:=r.obj P _ h;exact⟨ps,e,h1,h2.imp id λ⟨c,oc,j,_,d⟩=>⟨c,oc,j,d⟩⟩
theorem Grow.ext(g:Grow P lp qual ps H H')(r:Rp K F S H)(h:S P=some (.tb lp qual))(hP:H P=some (.tbl ps))(tr:TriplesOk ps.toList):Ext S H S H'/\Rp K F S H':=by
 rcases g with rfl|⟨c,oc,vs,t,j,B,rfl,L,J,G⟩
 ·exact⟨Ext.refl _ _,r⟩
 ·have ne:∀a o,H a=some o->a≠c:=λa o e z=>by rw[z,j] at e;cases e
  have x:Ext S H S (upd (upd H P (.tbl (ps++#[eJ lp.line,eJ lp.col,.ref c]))) c (cdO c oc)):=by
   refine⟨λa o h1 h2=>?_,λa ha=>?_,λa ha=>.inl ha⟩
   ·have z:a≠P:=λz=>by rw[z,h] at h1;cases h1
    rw[upd_ne (ne a o h2),upd_ne z];exact h2
   ·by_cases d:a=c
    ·rw[d,aQ9];exact λz=>by cases z
    ·rw[upd_ne d]
     by_cases D:a=P
     ·rw[D,aQ9];exact λz=>by cases z
     ·rw[upd_ne D];exact ha
  refine⟨x,λa o ha=>?_,λa ha=>?_⟩
  ·by_cases z:a=P
   ·subst z;rw[h] at ha;cases ha;refine⟨_,by rw[upd_ne (bX B),aQ9],?_,.inr ⟨c,oc,?_,?_,aQ9,vs,t,L,J⟩⟩
    ·simpa using TriplesOk_snoc _ _ _ _ tr
    ·simpa using codeAmong_snoc _ tr G
    ·rintro(z|z)
     ·exact z (r.sn j)
     ·obtain⟨⟨u,e,_⟩,_⟩:=r.frm c z;rw[j] at e;cases e
   ·have q:=r.obj a o ha;refine q.keep x.kp ?_;have d:a≠c:=λd=>by rw[d] at q;exact q.live j
    rw[upd_ne d,upd_ne z]
  ·obtain⟨⟨u,e,ct⟩,h2⟩:=r.frm a ha;have z:a≠P:=λz=>by rw[z,h] at h2;cases h2
   exact⟨⟨u,by rw[upd_ne (ne a u e),upd_ne z];exact e,ct⟩,h2⟩
end
def lnD:D->Nat
 |.tup xs=>xs.length
 |_=>0
def kyD(x:D):List D:=[.int (-(lnD x:Int)),x]
def ltK(x y:D):Bool:=lexN (ltN 8) (kyD x) (kyD y)
def okK(xs:List D):Prop:=(∀a∈xs,∃ys,a=.tup ys)/\∀a∈xs,∀b∈xs,okLs (okL 8) 8 (kyD a) (kyD b)=true
def bZv(b:D):List D->D
 |[]=>b
 |x::xs=>bZv (if ltK x b=true then x else b) xs
abbrev btK(xs:List D):Nat->Nat->Bool:=λi j=>ltK (xs.getD i .non) (xs.getD j .non)
theorem dQa(b:D)(xs:List D)(y:D):bZv b (xs++[y])=if ltK y (bZv b xs)=true then y else bZv b xs:=by
 induction xs generalizing b with
 |nil=>rfl
 |cons x xs d=>exact d _
theorem cQl(x:D)(xs:List D):∀m,m<=xs.length->(x::xs)[fT (btK (x::xs)) m]?=some (bZv x (xs.take m))
 |0,_=>rfl
 |m+1,hm=>by
  have d:=cQl x xs m (by lia)
  have B:(x::xs).getD (m+1) .non=xs[m]'(by lia):=by
   rw[ay,gZ,ah (by lia)];rfl
  have z:(x::xs).getD (fT (btK (x::xs)) m) .non=bZv x (xs.take m):=by
   rw[ay,d];rfl
  have j:xs.take (m+1)=xs.take m++[xs[m]'(by lia)]:=by rw[cM,ah (by lia)];rfl
  rw[j,dQa];show(x::xs)[if ltK ((x::xs).getD (m+1) .non) ((x::xs).getD (fT (btK (x::xs)) m) .non)=true then m+1 else fT (btK (x::xs)) m]?=_
  rw[B,z]
  split
  ·rw[gZ,ah (by lia)]
  ·exact d
section
variable{X:Cx}{K:Fg}{pos:Pos}{k:Nat}
theorem fXk(l:RepL K M H ds us)(ok:okK ds):KeyV K H us (λi=>lnD (ds.getD i .non)) (btK ds):=by
 have gd:∀(i:Nat) d,ds[i]?=some d->ds.getD i .non=d:=λi d e=>by rw[ay,e];rfl
 refine⟨λi x U=>?_,?_⟩
 ·obtain⟨d,z,rd⟩:=l.get' U;obtain⟨ys,rfl⟩:=ok.1 d (bS z);show ∃b vs,x=.ref b/\SqT K H b vs/\vs.length=lnD (ds.getD i .non);rw[gd i _ z];obtain⟨a,xs,e,t,O⟩:=rd;exact⟨a,xs,e,t.sq,O.length⟩
 ·intro X pins σ s I Z A hA i j x y u v t J hi Y N L;subst Z;obtain⟨d,z,rd⟩:=l.get' hi;obtain⟨e,G,re⟩:=l.get' Y;show HT.LexAt A s [.int (-(lnD (ds.getD i .non))) t,u] [.int (-(lnD (ds.getD j .non))) J,v] (ltK (ds.getD i .non) (ds.getD j .non));rw[gd i _ z,gd j _ G];refine cQe (M:=M) (xs:=[.int (-(lnD d)),x]) (ys:=[.int (-(lnD e)),y]) (λp q r B o=>(eq3 I 8 (by lia) p q r B o).eq) (λp q r B o=>fZy I 8 (by lia) p q r B o) ?_ ?_ ?_ ?_ (ok.2 d (bS z) e (bS G))
  ·exact RepL.cons (by rfl) (RepL.cons rd RepL.nil)
  ·exact RepL.cons (by rfl) (RepL.cons re RepL.nil)
  ·exact .cons ⟨_,rfl⟩ (.cons N .nil)
  ·exact .cons ⟨_,rfl⟩ (.cons L .nil)
def fXl(y:D):List D->D
 |[]=>y
 |x::xs=>bZv x xs
def hQh(P:Addr)(lp:Pos)(qual:Str)(te:ED)(j:Nat):ED:=fun Γ S Q=>te Γ S λd S1=>S1 P=some (.tb lp qual)/\look Γ j λy=>∃xs,sqIs S1 d xs/\okK xs/\Q (fXl y xs) S1
theorem gXd{e:Expr}{c P:Addr}{qual xd:Str}{scope:Scope}{p p0 p1 p2 p3 p4 p5 p6 lp kp kp2 pd:Pos}{kk:Nat}(j:Nat){te:ED}(hr:Room k X.A)(hg:Gl X "min")(hm:X.mg "min"=none)(hml:X.mg "len"=none)(T:TabF X.base X.mg c P)
  (he:PD K X e te) (hN:X.N[j]?=some xd:=by rfl) (hv:Vis X.env.scope xd:=by first|exact aS rfl|exact fQ (aS rfl)|exact fQ (fQ rfl)) (hcode:X.env.code=.ref c:=by rfl) (hq:X.env.qual ++ "<lambda>"=qual:=by rfl)
  (hk:scope.kind=.function:=by rfl) (hco:scope.isCoroutine=false:=by rfl) (hgen:scope.isGenerator=false:=by rfl)
  (h1:scope.names.lookup ("some":Str)=some .local:=by rfl) (h2:scope.names.lookup ("len":Str)=some .globalImplicit:=by rfl) (hcell:∀x∈scope.names,x.2≠.cell:=by decide) (hcl:js scope X.env=pure []:=by rfl) (hK:X.K=K:=by rfl) (hc:X.calm=true:=by rfl)
  (hd:(xd==("__debug__":Str))=false:=by decide) (hcd:(xd==("__classdict__":Str))=false:=by decide)
  (g1:cC pos (az [e] X.env)=[(false,eval e X.env)]:=by rfl) (g2:(jq pos (gi [⟨some "key",.Lambda (keyP p0) (keyB p1 p2 p3 p4 p5 p6 kk) scope lp,kp⟩,⟨some "default",.Name xd pd,kp2⟩] X.env)).filterMap (·.1)=[("key":Str),"default"]:=by rfl) :
  PD K X (.Call (.Name "min" p) [e] [⟨some "key",.Lambda (keyP p0) (keyB p1 p2 p3 p4 p5 p6 kk) scope lp,kp⟩,⟨some "default",.Name xd pd,kp2⟩] pos) (hQh P lp qual te j) :=
 .of (fXj hr hg hm hml he.o hN hv hcode T hq hk hco hgen h1 h2 hcell hcl hK hc hd hcd g1 g2) fun σ H Q z0=>z0.el λF S Γ QD r g q c =>
  ⟨F,S,Γ,_,r,g,q,λv d H1 S1 J L v1 z1=>by
   obtain⟨U,q1⟩:=z1;obtain⟨ps,Y,tb⟩:=L.tb U;obtain⟨y,yd,ey,ry,xs,hs,ok,O⟩:=(g.ext J).look q1;refine⟨ps,Y,tb,y,ey,λH2 gr=>?_⟩;obtain⟨D,G⟩:=gr.ext L U Y tb.1;obtain⟨a,us,rfl,sq,B⟩:=hs.sq G (v1.ext D);have Z:=Cn.shift c (J.trans D);refine⟨a,us,_,_,rfl,sq,fXk B ok,λz=>?_,λv hv=>?_⟩
   ·subst z
    have:=bD (by simpa using B.length.symm)
    subst this;exact Z.here G (ry.ext D) O
   ·cases xs with
    |nil =>
     subst B;cases hv
    |cons x xs =>
     have hl:=B.length;have e:us.length-1=xs.length:=by rw[hl];simp
     rw[e] at hv;obtain⟨d,ed,rd⟩:=B.get' hv;rw[cQl x xs xs.length (am _),dF] at ed;cases ed;exact Z.here G rd O⟩
end
section
variable{P:aA}{w:aO}{K:ar}{mg:Str->Option ad}{base:bd}{k:Nat}
def cQm(K:ar)(mg:Str->Option ad)(x:Str)(c:Addr):Prop:=∀(f:Addr) (o:Obj) (fd:dz),mg x=some (.ref f)->K.lookup f=some o->o.data=.func fd->fd.code=.ref c
theorem gXe{st:Stmt}(T:Tx K mg x st)(C:cQm K mg x c)(S:FnScope N ps (aQ5 st))
  (b:∀{f:Addr}{fd:dz},Fun K x x st f fd->Binds K fd ps []) (len:∀ds S Q,sp ds S Q->ds.length=ps.length)
  (h:∀ (f:Addr) (A:aW) (outer:List Env) (s:ai) (H:Hp) (E:XK),Room k (A.deeper (jm x (aQ5 st) s.heap.objs.size f (.ref c))) ->
   ∃t,PSsD K (cxOf CX0 P w K mg base N x (aQ5 st) f (.ref c) A outer s H E).nox (aZb st) t/\∀ds S Q,sp ds S Q->t (dQ0 Q) (bQ1 N ds) S):Df P w K mg base (k+1) x ps (spU K sp):=by
 obtain⟨f,fd,L,m⟩:=T.ex;refine⟨f,fd,?_,b L,L.kp,m⟩;obtain⟨oc,od,kV,doc,pm,an,J,ct,U,rfl,lk,G⟩:=L.ex;obtain rfl:J=.ref c:=C f _ _ m lk rfl;refine fJu lk G S (λvs H Q E B=>by obtain⟨F,S,ds,QD,r,l,j,c⟩:=B;rw[l.length];exact len ds S QD j) (λA outer s H vs Q E' Y B=>?_)
 obtain⟨F,S,ds,QD,r,l,j,c⟩:=B;obtain⟨t,h1,h2⟩:=h f A outer s H E' Y;have fin:∀v d H' S',Ext S H S' H'->Rp K F S' H'->RepV K (mt S' F) H' d v->rtD QD d S'->Q v H':=λv d H' S' D z v1 O=>by
  obtain⟨d',S2,hs,Z,q⟩:=O;exact c v d' H' S2 (D.trans (Ext.less hs)) (z.less hs) ((dXi z hs Z).1 v v1) q
 exact⟨_,h1.o.nox,F,S,bQ1 N ds,dQ0 QD,r,bJ0 l,h2 ds S QD j,fun Γ' S' σ' H' D z g1 q=>fin .non .non H' S' D z (by rfl) q,fin,λ_ _ _ _ _ _ _ q=>q.elim,λ_ _ _ _ _ _ _ q=>q.elim⟩
end
end L2
set_option maxHeartbeats 4000000
namespace L2
open PySem
open Toy
end L2
set_option maxHeartbeats 1000000
namespace L2
open PySem Toy
section
variable(ok:Nat->Bool)(g:Nat->List Str)
def ars2:Nat->List (List Nat×List Str)
 |0=>[([],[])]
 |i+1=>if ok i=true then ars2 i++((ars2 i).filter λp=>((g i).filter λn=>decide (n∈p.2)).isEmpty).map λp=>(p.1++[i],p.2++g i) else ars2 i
theorem aX2:∀i p,p∈ars2 ok g i↔p.1.Sublist ((aI i).filter ok)/\p.2=(p.1.map g).flatten/\Apr g p.1
 |0,p=>by
  unfold ars2;rw[aF,List.range_zero,List.filter_nil,fG];constructor
  ·rintro rfl;exact⟨rfl,rfl,d9⟩
  ·rintro⟨h1,h2,_⟩;obtain⟨a,b⟩:=p;simp only at h1 h2;subst h1;rw[h2];rfl
 |i+1,p=>by
  have B:=aX2 i;unfold ars2
  by_cases hok:ok i=true
  ·rw[if_pos hok];have d:∀q:List Nat×List Str,q∈ars2 ok g i->((((g i).filter λn=>decide (n∈q.2)).isEmpty=true)↔∀a∈q.1,∀x∈g a,x∉g i):=λq D=>by
    rw[List.isEmpty_iff,eD,((B q).mp D).2.1];constructor
    ·intro h a z x O N;exact h x N (decide_eq_true (de.mpr ⟨g a,av.mpr ⟨a,z,rfl⟩,O⟩))
    ·intro h x O hd;obtain⟨t,ht,L⟩:=de.mp (of_decide_eq_true hd);obtain⟨a,z,rfl⟩:=av.mp ht;exact h a z x L O
   have Y:(aI (i+1)).filter ok=(aI i).filter ok++[i]:=by
    rw[iY,dw];simp[hok]
   rw[a6,av,Y,List.sublist_append_iff];constructor
   ·rintro(h|⟨q,D,rfl⟩)
    ·obtain⟨h1,h2,j⟩:=(B p).mp h;exact⟨⟨p.1,[],by simp,h1,by simp⟩,h2,j⟩
    ·obtain⟨G,U⟩:=ao.mp D;obtain⟨h1,h2,j⟩:=(B q).mp G;refine⟨⟨q.1,[i],rfl,h1,cZ _⟩,by simp[h2],?_⟩
     unfold Apr;rw[dE];exact⟨j,bI _ _,λa z b hb=>by rw[aF.mp hb];exact(d q G).mp U a z⟩
   ·rintro⟨⟨J,Z,e,s1,s2⟩,h2,j⟩;have two:Z=[]\/Z=[i]:=by
     cases s2 with
     |cons _ h=>left;exact fG.mp h
     |cons_cons _ h=>right;rw[fG.mp h]
    rcases two with rfl|rfl
    ·rw[cR] at e;exact .inl ((B p).mpr ⟨by rw[e];exact s1,h2,j⟩)
    ·right
     unfold Apr at j;rw[e,dE] at j;have D:(J,(J.map g).flatten)∈ars2 ok g i:=(B _).mpr ⟨s1,rfl,j.1⟩;refine⟨(J,(J.map g).flatten),ao.mpr ⟨D,(d _ D).mpr λa z=>j.2.2 a z i (by simp)⟩,?_⟩
     obtain⟨a,b⟩:=p;simp only at e h2;rw[h2,e];simp
  ·rw[if_neg hok,B];have Y:(aI (i+1)).filter ok=(aI i).filter ok:=by
    rw[iY,dw];simp[hok]
   rw[Y]
end
abbrev lft(core t:List Str):List Str:=t.filter λn=>!decide (n∈core)
abbrev gT(ts:List (List Str)):Nat->List Str:=λi=>ts.getD i []
abbrev okC(ts:List (List Str))(core:List Str):Nat->Bool:=λi=>has (gT ts i) core
abbrev arC(ts:List (List Str))(core:List Str)(i:Nat):List (List Nat×List Str):=ars2 (okC ts core) (λi=>lft core (gT ts i)) i
def lbs(ts:List (List Str))(core:List Str):List Nat:=bst [] (((arC ts core ts.length).map (·.1)).filter λr=>decide (1<r.length))
theorem gXf(ts:List (List Str))(core:List Str):∀i∈lbs ts core,i<ts.length:=λi hi=>by
 unfold lbs at hi;rcases aw.mp (bZg (((arC ts core ts.length).map (·.1)).filter λr=>decide (1<r.length)) []).1 with z|z
 ·rw[z] at hi;cases hi
 ·obtain⟨p,d,e⟩:=av.mp (ao.mp z).1;rw[<- e] at hi;exact aU.mp (ao.mp (((aX2 _ _ _ _).mp d).1.subset hi)).1
theorem aXg(ha:Srt a)(hc:Srt core)(h1:has a core=true)(h2:has b core=true):(a.filter λx=>decide (x∈b))=core↔∀x∈lft core a,x∉lft core b:=by
 rw[has_iff] at h1 h2;constructor
 ·intro h x d B;simp only[lft,ao,cY,decide_eq_false_iff_not] at d B;exact d.2 (by rw[<- h];exact ao.mpr ⟨d.1,decide_eq_true B.1⟩)
 ·intro h;refine Srt.ext (bE _ ha) hc λn=>?_;rw[ao,decide_eq_true_iff];constructor
  ·rintro⟨G,D⟩;refine aK λz=>h n (ao.mpr ⟨G,by simp[z]⟩) (ao.mpr ⟨D,by simp[z]⟩)
  ·exact λj=>⟨h1 n j,h2 n j⟩
theorem bZh(ts:List (List Str)):ts=(aI ts.length).map (gT ts):=by
 apply dY (by simp)
 intro i h1 h2;simp[gT,ay,ah h1]
theorem dJh(hs:SrtT ts)(he:∀t∈ts,Srt t)(hc:Srt core)(h:MfS (hav ts core) (mtg (hav ts core) core) (-1) r)(h2:2<=r.length):r=(lbs ts core).map (gT ts)/\lbs ts core≠[]/\∀i∈lbs ts core,i<ts.length:=by
 have eI:hav ts core=((aI ts.length).filter (okC ts core)).map (gT ts):=by
  have:hav ts core=((aI ts.length).map (gT ts)).filter λt=>has t core:=by rw[<- bZh];rfl
  rw[this,gP];rfl
 have nd:(hav ts core).Nodup:=hs.nodup.filter _;have j:∀t∈hav ts core,Srt t:=λt ht=>he t (ao.mp ht).1;have d:∀t∈hav ts core,has t core=true:=λt ht=>(ao.mp ht).2;generalize hI:(aI ts.length).filter (okC ts core)=idx at eI;have eC:=λk=>(congrArg (λz=>ch z k) eI).trans (ch_map _ _ _);unfold lbs;obtain⟨Z,Y⟩:=bZg (((arC ts core ts.length).map (·.1)).filter λr=>decide (1<r.length)) [];generalize bst [] (((arC ts core ts.length).map (·.1)).filter λr=>decide (1<r.length))=B at Z Y;have L:∀row:List Nat,row∈((arC ts core ts.length).map (·.1)).filter (λr=>decide (1<r.length))↔row.Sublist idx/\Apr (λi=>lft core (gT ts i)) row/\1<row.length:=λrow=>by
  rw[ao,av,decide_eq_true_iff];constructor
  ·rintro⟨⟨p,O,rfl⟩,hl⟩;obtain⟨h1,_,h3⟩:=(aX2 _ _ _ _).mp O;rw[hI] at h1;exact⟨h1,h3,hl⟩
  ·rintro⟨h1,h3,hl⟩;exact⟨⟨(row,(row.map λi=>lft core (gT ts i)).flatten),(aX2 _ _ _ _).mpr ⟨by rw[hI];exact h1,rfl,h3⟩,rfl⟩,hl⟩
 have free:∀row:List Nat,row.Sublist idx->(aZo (mtg (hav ts core) core) (row.map (gT ts))↔Apr (λi=>lft core (gT ts i)) row):=λrow hr=>by
  have N:(row.map (gT ts)).Sublist (hav ts core):=by rw[eI];exact hr.map _
  rw[cJ4 j nd N];rw[bu];have mem:∀a∈row,gT ts a∈hav ts core:=λa J=>N.subset (List.mem_map_of_mem J);constructor
  ·intro O;refine(kN.mp O).imp λ{a b} ⟨J,hb,G⟩=>?_;exact(aXg (j _ (mem a J)) hc (d _ (mem a J)) (d _ (mem b hb))).mp G
  ·intro O;refine(kN.mp O).imp λ{a b} ⟨J,hb,G⟩=>?_;exact(aXg (j _ (mem a J)) hc (d _ (mem a J)) (d _ (mem b hb))).mpr G
 have hf:=h.fst;rw[eC,gP,kX,bO] at hf;obtain⟨row0,hr0,rfl⟩:=hf;rw[ae] at h2;have m0:=fh hr0;obtain⟨m1,m2⟩:=ao.mp m0;obtain⟨l0,s0⟩:=ch_mem m1;have a0:=(free row0 s0).mp (frB_iff.mp m2);have nb:=Y row0 (ak _ ((L row0).mpr ⟨s0,a0,by lia⟩))
 have D:row0.length<=B.length:=by
  unfold bet at nb;refine aK λz=>?_;rw[if_neg (by lia)] at nb
  have:=of_decide_eq_false nb
  lia
 have hB:B∈((arC ts core ts.length).map (·.1)).filter (λr=>decide (1<r.length)):=by
  rcases aw.mp Z with z|z
  ·rw[z] at D;simp at D;rw[D] at h2;simp at h2
  ·exact z
 obtain⟨sB,aB,_⟩:=(L B).mp hB;have fB:=(free B sB).mpr aB;have lB:B.length<=row0.length:=by
  have h1:(B.map (gT ts)).Sublist (hav ts core):=by rw[eI];exact sB.map _
  have:=h.most _ h1 fB
  rw[ae,ae] at this;exact this
 have hl:row0.length=B.length:=by lia
 unfold bet at nb;rw[if_pos hl] at nb;have srI:idx.Pairwise (λa b=>ltn a b=true):=by
  rw[<- hI];exact((fM).imp λh=>decide_eq_true h).filter _
 have U:∀i∈idx,i<ts.length:=λi hi=>by
  rw[<- hI] at hi;exact aU.mp (ao.mp hi).1
 have:row0=B:=by
  refine aK λz=>?_;have mB:B∈(ch idx (row0.map (gT ts)).length).filter (frB (mtg (hav ts core) core)∘λs=>s.map (gT ts)):=by
   refine ao.mpr ⟨?_,frB_iff.mpr fB⟩;rw[ae,hl];exact aZd sB
  have srt:=(dJ4 (λa=>by simp) (row0.map (gT ts)).length srI).filter (frB (mtg (hav ts core) core)∘λs=>s.map (gT ts))
  cases e:(ch idx (row0.map (gT ts)).length).filter (frB (mtg (hav ts core) core)∘λs=>s.map (gT ts)) with
  |nil=>rw[e] at mB;cases mB
  |cons y ys =>
   rw[e] at mB srt hr0;cases hr0;rcases aw.mp mB with q|q
   ·exact z q.symm
   ·have:=(aM.mp srt).1 B q
    rw[this] at nb;cases nb
 rw[this];refine⟨rfl,λz=>?_,λi hi=>U i (sB.subset hi)⟩;rw[z] at hl;rw[hl] at h2;simp at h2
theorem eX0(hs:SrtT ts){i j:Nat}(hi:i<ts.length)(hj:j<ts.length)(h:i<j):HT.lexS (gT ts i) (gT ts j)=true:=by
 have:=cb.mp hs i j hi hj h
 simp only[gT,ay,ah hi,ah hj];exact this
theorem gXg(hs:SrtT ts){i j:Nat}(hi:i<ts.length)(hj:j<ts.length)(h:gT ts i=gT ts j):i=j:=by
 rcases eg i j with z|z|z
 ·have:=eX0 hs hi hj z;rw[h,aZ6] at this;cases this
 ·exact z
 ·have:=eX0 hs hj hi z;rw[h,aZ6] at this;cases this
theorem cJ6(hs:SrtT ts):∀{a b:List Nat},(∀i∈a,i<ts.length)->(∀i∈b,i<ts.length)->lexG HT.lexS (a.map (gT ts)) (b.map (gT ts))=lexG ltn a b
 |[],[],_,_=>rfl
 |[],_::_,_,_=>rfl
 |_::_,[],_,_=>rfl
 |x::a,y::b,D,B=>by
  have j:=D x (by simp)
  have d:=B y (by simp)
  show(if gT ts x=gT ts y then lexG HT.lexS (a.map (gT ts)) (b.map (gT ts)) else HT.lexS (gT ts x) (gT ts y))=if x=y then lexG ltn a b else ltn x y
  by_cases e:x=y
  ·subst e;rw[if_pos rfl,if_pos rfl];exact cJ6 hs (λi hi=>D i (ak _ hi)) λi hi=>B i (ak _ hi)
  ·rw[if_neg λz=>e (gXg hs j d z),if_neg e];rcases Nat.lt_or_gt_of_ne e with z|z
   ·rw[eX0 hs j d z];exact(decide_eq_true z).symm
   ·have h1:=eX0 hs d j z;have h2:=HT.lexS_as h1;rw[h2];exact(decide_eq_false (by lia)).symm
abbrev rowD(ts:List (List Str))(a:List Nat):D:=.tup ((a.map (gT ts)).map tupS)
theorem gXh(x y:List (List Str)):ltK (.tup (x.map tupS)) (.tup (y.map tupS))=if x.length=y.length then lexG HT.lexS x y else decide (y.length<x.length):=by
 have d:ltN 8 (.tup (x.map tupS)) (.tup (y.map tupS))=lexG setE.lt x y:=flE.lte 8 x y (by decide)
 rw[cZl] at d;have G:lnD (.tup (x.map tupS))=x.length:=by show(x.map tupS).length=_;simp
 have B:lnD (.tup (y.map tupS))=y.length:=by show(y.map tupS).length=_;simp
 show(if D.int (-(lnD (.tup (x.map tupS))))=D.int (-(lnD (.tup (y.map tupS)))) then (if D.tup (x.map tupS)=D.tup (y.map tupS) then false else ltN 8 (.tup (x.map tupS)) (.tup (y.map tupS))) else ltN 8 (D.int (-(lnD (.tup (x.map tupS))))) (D.int (-(lnD (.tup (y.map tupS))))))=_
 rw[G,B,d]
 by_cases e:x.length=y.length
 ·rw[if_pos e,if_pos (by rw[e])]
  split
  ·next h =>
   have:=flE.inj h
   rw[this];have ir:∀l:List (List Str),lexG HT.lexS l l=false:=λl=>by
    induction l with
    |nil=>rfl
    |cons a l j=>unfold lexG;rw[if_pos rfl];exact j
   rw[ir]
  ·rfl
 ·rw[if_neg e,if_neg (λz=>e (by injection z with z;lia))]
  exact decide_eq_decide.mpr (by lia)
theorem eX1(hs:SrtT ts){a b:List Nat}(ha:∀i∈a,i<ts.length)(hb:∀i∈b,i<ts.length):ltK (rowD ts a) (rowD ts b)=bet a b:=by
 rw[gXh,ae,ae,cJ6 hs ha hb];rfl
theorem gXi(xs:List (List (List Str))):okK (xs.map λx=>D.tup (x.map tupS)):=by
 refine⟨λa d=>?_,λa d b G=>?_⟩
 ·obtain⟨x,_,rfl⟩:=av.mp d;exact⟨_,rfl⟩
 ·obtain⟨x,_,rfl⟩:=av.mp d;obtain⟨y,_,rfl⟩:=av.mp G;have B:okL 8 (.tup (x.map tupS)) (.tup (y.map tupS))=true:=flE.okl 8 x y (by decide)
  have z:okE 8 (.tup (x.map tupS)) (.tup (y.map tupS))=true:=flE.ok 8 x y (by decide)
  show(okE 8 (D.int (-(lnD (.tup (x.map tupS))))) (D.int (-(lnD (.tup (y.map tupS)))))&&(if D.int (-(lnD (.tup (x.map tupS))))=D.int (-(lnD (.tup (y.map tupS)))) then (okE 8 (.tup (x.map tupS)) (.tup (y.map tupS))&&(if D.tup (x.map tupS)=D.tup (y.map tupS) then true else okL 8 (.tup (x.map tupS)) (.tup (y.map tupS)))) else okL 8 (D.int (-(lnD (.tup (x.map tupS))))) (D.int (-(lnD (.tup (y.map tupS)))))))=true
  rw[B,z];have h1:∀i j:Int,okE 8 (D.int i) (D.int j)=true:=λ_ _=>rfl;have h2:∀i j:Int,okL 8 (D.int i) (D.int j)=true:=λ_ _=>rfl;rw[h1,h2]
  split
  ·split <;> rfl
  ·rfl
theorem aJw(hs:SrtT ts):∀(l:List (List Nat)) (b:List Nat),(∀i∈b,i<ts.length)->(∀r∈l,∀i∈r,i<ts.length)->bZv (rowD ts b) (l.map (rowD ts))=rowD ts (bst b l)
 |[],_,_,_=>rfl
 |x::l,b,z,hl=>by
  have j:=hl x (by simp)
  show bZv (if ltK (rowD ts x) (rowD ts b)=true then rowD ts x else rowD ts b) (l.map (rowD ts))=rowD ts (bst (if bet x b=true then x else b) l)
  rw[eX1 hs j z]
  by_cases c:bet x b=true
  ·rw[if_pos c,if_pos c];exact aJw hs l x j λr d=>hl r (ak _ d)
  ·rw[if_neg c,if_neg c];exact aJw hs l b z λr d=>hl r (ak _ d)
theorem bet_cons(x:Nat)(a:List Nat):bet (x::a) []=true:=by
 unfold bet;rw[if_neg (by simp)];simp
theorem bJg:∀xs:List α,2*(ch xs 2).length<=xs.length*(xs.length-1)
 |[]=>by simp[eXz]
 |x::xs=>by
  have d:=bJg xs;rw[aQl,ax,ae,dXz,ae,aG,Nat.add_sub_cancel];have e:(xs.length+1)*xs.length=xs.length*(xs.length-1)+2*xs.length:=by
   cases xs with
   |nil=>rfl
   |cons y ys=>simp only[aG,Nat.add_sub_cancel];rw[Nat.mul_comm (ys.length+1) ys.length,<- Nat.add_mul]
  lia
def mets(ts:List (List Str)):List (List Str):=(ch ts 2).map mt2
theorem cJ7(ts:List (List Str))(h:ts.length<=14):(mets ts).length<=91:=by
 have h1:=bJg ts;have h2:ts.length*(ts.length-1)<=14*13:=Nat.mul_le_mul h (by lia)
 unfold mets;rw[ae];lia
theorem dJi(ts:List (List Str))(h:ts.length<=11):(mets ts).length<=55:=by
 have h1:=bJg ts;have h2:ts.length*(ts.length-1)<=11*10:=Nat.mul_le_mul h (by lia)
 unfold mets;rw[ae];lia
theorem dJj(h:∀t∈ts,t.length<=n){c:List Str}(hc:c∈mets ts):c.length<=n:=by
 obtain⟨p,j,rfl⟩:=av.mp hc;obtain⟨a,b,rfl,d⟩:=aZs j;exact aH (bv _ _) (h a (d.subset (by simp)))
theorem bJh(hs:SrtT ts)(he:∀t∈ts,Srt t){core:List Str}(h:core∈mets ts):Srt core/\∀r,MfS (hav ts core) (mtg (hav ts core) core) (-1) r->2<=r.length:=by
 obtain⟨p,G,rfl⟩:=av.mp h;obtain⟨a,b,rfl,d⟩:=aZs G;have L:=he a (d.subset (by simp))
 have N:=he b (d.subset (by simp))
 refine⟨bE _ L,λr D=>?_⟩;have sub:[a,b].Sublist (hav ts (mt2 [a,b])):=by
  have h1:=d.filter λt=>has t (mt2 [a,b]);have e:[a,b].filter (λt=>has t (mt2 [a,b]))=[a,b]:=by
   rw[dP];intro t z;rw[has_iff];intro x B;have j:=ao.mp B;rcases aw.mp z with rfl|z
   ·exact j.1
   ·rw[aF.mp z];exact of_decide_eq_true j.2
  rw[e] at h1;exact h1
 have:=D.most [a,b] sub ((cJ4 (λt z=>he t (ao.mp z).1) (hs.nodup.filter _) sub).mpr (by
  refine aM.mpr ⟨λc J=>?_,bI _ _⟩;rw[aF.mp J];rfl))
 exact this
def metL(ts:List (List Str)):Nat->List (List Str)
 |0=>[]
 |k+1=>metL ts k++(ts.take k).map λo=>(gT ts k).filter λx=>decide (x∈o)
theorem bJi:∀n,x∈metL ts n↔∃k,k<n/\∃o∈ts.take k,x=(gT ts k).filter λy=>decide (y∈o)
 |0=>by simp[metL]
 |n+1=>by
  unfold metL;rw[a6,bJi n,av];constructor
  ·rintro(⟨k,j,h⟩|⟨o,d,e⟩)
   ·exact⟨k,by lia,h⟩
   ·exact⟨n,by lia,o,d,e.symm⟩
  ·rintro⟨k,j,o,d,e⟩
   by_cases z:k=n
   ·subst z;exact .inr ⟨o,d,e.symm⟩
   ·exact .inl ⟨k,by lia,o,d,e⟩
theorem dJk:∀{ts:List (List Str)},[a,b].Sublist ts->∃k,k<ts.length/\gT ts k=b/\a∈ts.take k
 |[],h=>by cases h
 |x::xs,h=>by
  cases h with
  |cons _ h =>
   obtain⟨k,h1,h2,j⟩:=dJk h;exact⟨k+1,by rw[aG];lia,h2,by rw[List.take_succ_cons];exact ak _ j⟩
  |cons_cons _ h =>
   obtain⟨k,d,e⟩:=bf (h.subset (by simp:b∈[b]))
   refine⟨k+1,by rw[aG];lia,?_,by rw[List.take_succ_cons];exact aj⟩
   show xs.getD k []=b;rw[ay,ah d,e];rfl
theorem dJl(he:∀t∈ts,Srt t)(x:List Str):x∈metL ts ts.length↔x∈mets ts:=by
 rw[bJi];unfold mets;rw[av];constructor
 ·rintro⟨k,j,o,B,rfl⟩;have D:gT ts k=ts[k]:=by show ts.getD k []=_;rw[ay,ah j];rfl
  have sub:[o,gT ts k].Sublist ts:=by
   have h1:=dN.mpr B;have h2:[gT ts k].Sublist (ts.drop k):=dN.mpr (by rw[D,cu j];exact aj)
   have:=h1.append h2
   rwa [b7] at this
  refine⟨[o,gT ts k],aZd sub,?_⟩;exact aJe (he _ (sub.subset (by simp))) (he _ (sub.subset (by simp)))
 ·rintro⟨p,z,rfl⟩;obtain⟨a,b,rfl,d⟩:=aZs z;obtain⟨k,h1,h2,G⟩:=dJk d;refine⟨k,h1,a,G,?_⟩;rw[h2];exact aJe (he _ (d.subset (by simp))) (he _ (d.subset (by simp)))
theorem gXj(he:∀t∈ts,Srt t)(h:c∈mets ts):lbs ts c≠[]:=by
 obtain⟨k,D,o,O,rfl⟩:=(bJi _).mp ((dJl he c).mpr h);obtain⟨i,hi,Z⟩:=bf O;rw[a7] at hi;have U:i<k:=by lia
 have G:i<ts.length:=by lia
 have go:gT ts i=o:=by
  show ts.getD i []=o;rw[ay,ah G,<- Z,ib];rfl
 have N:=he _ (by show ts.getD k []∈ts;rw[ay,ah D];exact db D)
 have L:=he _ (gj O);generalize B:((gT ts k).filter λy=>decide (y∈o))=c;have sc:Srt c:=by rw[<- B];exact bE _ N
 have h1:has (gT ts k) c=true:=has_iff.mpr λx j=>by rw[<- B] at j;exact(ao.mp j).1
 have h2:has (gT ts i) c=true:=has_iff.mpr λx j=>by rw[<- B] at j;rw[go];exact of_decide_eq_true (ao.mp j).2
 have sub:[i,k].Sublist (aI ts.length):=by
  have s1:[i].Sublist ((aI ts.length).take k):=dN.mpr (by rw[List.take_range];exact aU.mpr (by lia))
  have s2:[k].Sublist ((aI ts.length).drop k):=dN.mpr (by
   rw[cu (by rw[di];exact D),gS];exact aj)
  have:=s1.append s2
  rwa [b7] at this
 have d:[i,k].Sublist ((aI ts.length).filter (okC ts c)):=by
  have:=sub.filter (okC ts c)
  have e:[i,k].filter (okC ts c)=[i,k]:=by
   rw[dP];intro a J;rcases aw.mp J with rfl|J
   ·exact h2
   ·rw[aF.mp J];exact h1
  rwa [e] at this
 have ap:Apr (λi=>lft c (gT ts i)) [i,k]:=by
  refine aM.mpr ⟨λb Y=>?_,bI _ _⟩;rw[aF.mp Y];refine(aXg (by rw[go];exact L) sc h2 h1).mp ?_
  rw[<- B,go];exact aJe L N
 have mem:[i,k]∈[]::((ars2 (okC ts c) (λi=>lft c (gT ts i)) ts.length).map (·.1)).filter (λr=>decide (1<r.length)):=by
  refine ak _ (ao.mpr ⟨av.mpr ⟨([i,k],([i,k].map λi=>lft c (gT ts i)).flatten),(aX2 _ _ _ _).mpr ⟨d,rfl,ap⟩,rfl⟩,by simp⟩)
 have:=(bZg _ []).2 _ mem
 intro z;unfold lbs at z;rw[z] at this;rw[bet_cons] at this;cases this
end L2
namespace L2
open PySem PySem.Spec PyProof.Rows
end L2
set_option maxHeartbeats 4000000
namespace Toy
open PySem L2
end Toy
set_option maxHeartbeats 1000000
namespace L2
open PySem Toy
theorem pair_sub{α:Type}:∀{l:List α},2<=l.length->∃a b,[a,b].Sublist l
 |[],h=>by simp at h
 |[x],h=>by simp at h
 |x::y::l,_=>⟨x,y,(eH l).cons_cons y |>.cons_cons x⟩
theorem cZr(ha:Srt a)(hb:Srt b):meG a b=meG b a:=Srt.ext (bE _ ha) (bE _ hb) λx=>by rw[mem_me,mem_me];exact And.comm
theorem eJ8{α:Type}{l:List α}{R:α->α->Prop}(sy:∀a∈l,∀b∈l,R a b->R b a)(h:l.Pairwise R):∀a∈l,∀b∈l,a≠b->R a b:=λa B b z ne=>by
 obtain⟨i,hi,rfl⟩:=bf B;obtain⟨j,d,rfl⟩:=bf z;rcases eg i j with q|q|q
 ·exact cb.mp h i j hi d q
 ·subst q;exact absurd rfl ne
 ·exact sy _ z _ B (cb.mp h j i d hi q)
theorem eJ9(h2:2<=p.length)(nd:p.Nodup)(hs:∀o∈p,Srt o):(coG p).isSome=true↔∃c,∀a∈p,∀b∈p,a≠b->meG a b=c:=by
 constructor
 ·intro h;obtain⟨c,d⟩:=bn.mp h;exact⟨c,eJ8 (λa z b j e=>by rw[cZr (hs b j) (hs a z)];exact e) ((dQ5 h2 nd hs).mp d)⟩
 ·rintro⟨c,d⟩
  have:=(dQ5 h2 nd hs).mpr (be (λ{a b} z j n=>d a z b j n) nd)
  rw[this];rfl
theorem bZi(nd:p.Nodup)(hs:∀o∈p,Srt o):okP p=true↔p.length=1\/(2<=p.length/\∃c,∀a∈p,∀b∈p,a≠b->meG a b=c):=by
 unfold okP;rw[kI,decide_eq_true_iff];constructor
 ·rintro(h|h)
  ·exact .inl h
  ·have h2:=((aXb λo d=>(hs o d).nodup).mp h).1;exact .inr ⟨h2,(eJ9 h2 nd hs).mp h⟩
 ·rintro(h|⟨h2,h⟩)
  ·exact .inl h
  ·exact .inr ((eJ9 h2 nd hs).mpr h)
theorem cZs(np:p.Nodup)(nq:q.Nodup)(hs:∀o∈p,Srt o)(hm:∀x,x∈p↔x∈q)(h:okP p=true):okP q=true:=by
 have pm:=(cI np nq).mpr hm;have l:=pm.length_eq;rw[bZi nq λo d=>hs o ((hm o).mpr d)];rcases(bZi np hs).mp h with h|⟨h2,c,j⟩
 ·exact .inl (by lia)
 ·exact .inr ⟨by lia,c,λa B b z=>j a ((hm a).mpr B) b ((hm b).mpr z)⟩
theorem fXm(nd:p.Nodup)(hs:∀o∈p,Srt o){φ ψ:List Str->List Str}(inj:∀a∈p,∀b∈p,φ a=φ b->a=b)(sφ:∀a∈p,Srt (φ a))(hm:∀a∈p,∀b∈p,meG (φ a) (φ b)=ψ (meG a b))(hj:∀a∈p,∀b∈p,∀a'∈p,∀b'∈p,ψ (meG a b)=ψ (meG a' b')->meG a b=meG a' b'):okP (p.map φ)=true↔okP p=true:=by
 have nm:(p.map φ).Nodup:=bu.mpr (be (λ{a b} d j n e=>n (inj a d b j e)) nd);rw[bZi nm λo L=>by obtain⟨a,d,rfl⟩:=av.mp L;exact sφ a d,bZi nd hs,ae]
 refine or_congr Iff.rfl (and_congr_right λh2=>?_);constructor
 ·rintro⟨c,J⟩;obtain⟨x,y,z⟩:=pair_sub h2;have D:x∈p:=z.subset (by simp)
  have B:y∈p:=z.subset (by simp)
  have G:x≠y:=by
   have:=nd.sublist z
   simp at this;exact this
  have g:∀a∈p,∀b∈p,a≠b->ψ (meG a b)=c:=λa d b j n=>by
   rw[<- hm a d b j];exact J _ (av.mpr ⟨a,d,rfl⟩) _ (av.mpr ⟨b,j,rfl⟩) λe=>n (inj a d b j e)
  exact⟨meG x y,λa d b j n=>hj a d b j x D y B ((g a d b j n).trans (g x D y B G).symm)⟩
 ·rintro⟨c,J⟩;refine⟨ψ c,λa d b j n=>?_⟩;obtain⟨x,D,rfl⟩:=av.mp d;obtain⟨y,B,rfl⟩:=av.mp j;rw[hm x D y B,J x D y B λe=>n (by rw[e])]
def tr(ns ms:List Str)(n:Str):Str:=ms.getD (ns.idxOf n) n
theorem gXk(hl:ms.length=ns.length){n:Str}(hn:n∈ns):∃h:ns.idxOf n<ms.length,tr ns ms n=ms[ns.idxOf n]:=by
 have h:ns.idxOf n<ms.length:=by rw[hl];exact jf hn
 refine⟨h,?_⟩;unfold tr;rw[ay,ah h];rfl
theorem gXl(hl:ms.length=ns.length){n:Str}(hn:n∈ns):tr ns ms n∈ms:=by
 obtain⟨h,e⟩:=gXk hl hn;rw[e];exact db h
theorem bJj(hl:ms.length=ns.length)(nm:ms.Nodup){n:Str}(hn:n∈ns):tr ms ns (tr ns ms n)=n:=by
 obtain⟨h,e⟩:=gXk hl hn;have d:ms.idxOf (tr ns ms n)=ns.idxOf n:=by rw[e];exact nm.idxOf_getElem _ h
 unfold tr;unfold tr at d;rw[d,ay,ah (jf hn)];exact List.getElem_idxOf _
theorem eJa(hl:ms.length=ns.length)(nm:ms.Nodup){a b:Str}(ha:a∈ns)(hb:b∈ns)(e:tr ns ms a=tr ns ms b):a=b:=by
 rw[<- bJj hl nm ha,e,bJj hl nm hb]
def cl(ns ms:List Str)(t:List Str):List Str:=srS (t.map (tr ns ms))
section
variable{ns ms:List Str}(hl:ms.length=ns.length)(nn:ns.Nodup)(nm:ms.Nodup)
include hl nm
theorem hQi{t:List Str}(nt:t.Nodup)(ht:∀n∈t,n∈ns):(t.map (tr ns ms)).Nodup:=bu.mpr (be (λ{a b} j d n e=>n (eJa hl nm (ht a j) (ht b d) e)) nt)
theorem bZj(nt:t.Nodup)(ht:∀n∈t,n∈ns):Srt (cl ns ms t):=dJ2 (hQi hl nm nt ht)
theorem bZk{x:Str}:x∈cl ns ms t↔∃n∈t,tr ns ms n=x:=by unfold cl;rw[dJ3,av]
theorem eJb(ht:∀n∈t,n∈ns){x:Str}(hx:x∈cl ns ms t):x∈ms:=by
 obtain⟨n,d,rfl⟩:=(bZk hl nm).mp hx;exact gXl hl (ht n d)
include nn in
theorem aJx{t:List Str}(st:Srt t)(ht:∀n∈t,n∈ns):cl ms ns (cl ns ms t)=t:=by
 refine Srt.ext (bZj hl.symm nn (bZj hl nm st.nodup ht).nodup λx d=>eJb hl nm ht d) st λx=>?_;rw[bZk hl.symm nn];constructor
 ·rintro⟨y,z,rfl⟩;obtain⟨n,j,rfl⟩:=(bZk hl nm).mp z;rw[bJj hl nm (ht n j)];exact j
 ·intro d;exact⟨tr ns ms x,(bZk hl nm).mpr ⟨x,d,rfl⟩,bJj hl nm (ht x d)⟩
theorem fXn(sa:Srt a)(sb:Srt b)(ha:∀n∈a,n∈ns)(hb:∀n∈b,n∈ns):meG (cl ns ms a) (cl ns ms b)=cl ns ms (meG a b):=by
 refine Srt.ext (bE _ (bZj hl nm sa.nodup ha)) (bZj hl nm (sa.nodup.filter _) λn d=>ha n (mem_me.mp d).1) λx=>?_;rw[mem_me,bZk hl nm,bZk hl nm,bZk hl nm];constructor
 ·rintro⟨⟨n,d,e⟩,m,hm,j⟩
  have:=eJa hl nm (ha n d) (hb m hm) (e.trans j.symm)
  subst this;exact⟨n,mem_me.mpr ⟨d,hm⟩,e⟩
 ·rintro⟨n,d,e⟩;exact⟨⟨n,(mem_me.mp d).1,e⟩,n,(mem_me.mp d).2,e⟩
include nn in
theorem gXm{p:List (List Str)}(nd:p.Nodup)(hs:∀o∈p,Srt o)(hp:∀o∈p,∀n∈o,n∈ns):okP (p.map (cl ns ms))=true↔okP p=true:=by
 have mp:∀a∈p,∀b∈p,Srt (meG a b)/\∀n∈meG a b,n∈ns:=λa d b j=>⟨bE _ (hs a d),λn J=>hp a d n (mem_me.mp J).1⟩;refine fXm nd hs (ψ:=cl ns ms) (λa d b j e=>?_) (λa d=>bZj hl nm (hs a d).nodup (hp a d)) (λa d b j=>fXn hl nm (hs a d) (hs b j) (hp a d) (hp b j)) λa d b j N B L z e=>?_
 ·rw[<- aJx hl nn nm (hs a d) (hp a d),e,aJx hl nn nm (hs b j) (hp b j)]
 ·obtain⟨s1,G⟩:=mp a d b j;obtain⟨s2,D⟩:=mp N B L z;rw[<- aJx hl nn nm s1 G,e,aJx hl nn nm s2 D]
end
theorem betL(h:bet a b=false):a.length<=b.length:=by
 unfold bet at h
 by_cases e:a.length=b.length
 ·lia
 ·rw[if_neg e] at h
  have:=of_decide_eq_false h
  lia
theorem fXo(he:∀t∈ts,Srt t)(h:c∈mets ts):1<(lbs ts c).length/\(lbs ts c).Sublist ((aI ts.length).filter (okC ts c))/\Apr (λi=>lft c (gT ts i)) (lbs ts c):=by
 have ne:=gXj he h;unfold lbs at ne ⊢;rcases aw.mp (bZg (((arC ts c ts.length).map (·.1)).filter λr=>decide (1<r.length)) []).1 with z|z
 ·exact absurd z ne
 ·obtain⟨j,d⟩:=ao.mp z;obtain⟨p,G,e⟩:=av.mp j;obtain⟨D,_,B⟩:=(aX2 _ _ _ _).mp G;refine⟨of_decide_eq_true d,?_,?_⟩
  ·rw[<- e];exact D
  ·rw[<- e];exact B
theorem cJ8(h:i<ts.length):gT ts i∈ts:=by
 show ts.getD i []∈ts;rw[ay,ah h];exact db h
theorem fXp{I:List Nat}(h:I.Sublist (aI ts.length)):(I.map (gT ts)).Sublist ts:=by
 have:=h.map (gT ts)
 rwa [<- bZh] at this
theorem fXq(hs:SrtT ts)(he:∀t∈ts,Srt t)(h:c∈mets ts):((lbs ts c).map (gT ts)).Sublist ts/\2<=((lbs ts c).map (gT ts)).length/\(coG ((lbs ts c).map (gT ts))).isSome=true:=by
 obtain⟨h1,h2,L⟩:=fXo he h;have sc:=(bJh hs he h).1;have sub:=fXp (h2.trans bj);have d:2<=((lbs ts c).map (gT ts)).length:=by rw[ae];exact h1
 refine⟨sub,d,?_⟩
 have:coG ((lbs ts c).map (gT ts))=some c:=(dQ5 d (hs.nodup.sublist sub) λo G=>he o (sub.subset G)).mpr (bu.mpr (be (λ{i j} hi J ap=>?_) L))
 ·rw[this];rfl
 ·obtain⟨D,B⟩:=ao.mp (h2.subset hi);obtain⟨N,z⟩:=ao.mp (h2.subset J);exact(aXg (he _ (cJ8 (aU.mp D))) sc B z).mpr ap
theorem fXr(hs:SrtT ts)(he:∀t∈ts,Srt t)(hp:p.Sublist ts)(h2:2<=p.length)(hc:coG p=some c):c∈mets ts/\p.length<=(lbs ts c).length:=by
 have fm:=(dQ5 h2 (hs.nodup.sublist hp) λo ho=>he o (hp.subset ho)).mp hc;obtain⟨a,b,G⟩:=pair_sub h2;have Y:meG a b=c:=by
  have:=fm.sublist G
  exact(aM.mp this).1 b (by simp)
 have Z:c∈mets ts:=av.mpr ⟨[a,b],aZd (G.trans hp),Y⟩;refine⟨Z,?_⟩;have sc:=(bJh hs he Z).1;rw[bZh ts] at hp;obtain⟨I,U,rfl⟩:=List.sublist_map_iff.mp hp;have L:∀i∈I,i<ts.length:=λi hi=>aU.mp (U.subset hi);have B:=bu.mp fm;have nI:=iD.sublist U;rw[ae] at h2;have N:∀i∈I,has (gT ts i) c=true:=λi hi=>has_iff.mpr λx hx=>by
  have:∃j∈I,i≠j:=by
   obtain⟨u,v,d⟩:=pair_sub h2;have D:=nI.sublist d
   by_cases e:i=u
   ·exact⟨v,d.subset (by simp),λz=>by rw[<- e,<- z] at D;simp at D⟩
   ·exact⟨u,d.subset (by simp),e⟩
  obtain⟨j,O,J⟩:=this;have al:=eJ8 (λa ha b hb e=>by rw[cZr (he _ (cJ8 (L b hb))) (he _ (cJ8 (L a ha)))];exact e) B i hi j O J
  rw[<- al] at hx;exact(mem_me.mp hx).1
 have sI:I.Sublist ((aI ts.length).filter (okC ts c)):=by
  have:=U.filter (okC ts c)
  rwa [dP.mpr N] at this
 have ap:=be (λ{i j} hi O e=>(aXg (he _ (cJ8 (L i hi))) sc (N i hi) (N j O)).mp e) B;have mem:I∈[]::((arC ts c ts.length).map (·.1)).filter (λr=>decide (1<r.length)) :=
  ak _ (ao.mpr ⟨av.mpr ⟨(I,(I.map λi=>lft c (gT ts i)).flatten),(aX2 _ _ _ _).mpr ⟨sI,rfl,ap⟩,rfl⟩,decide_eq_true (by lia)⟩)
 rw[ae];exact betL ((bZg _ []).2 _ mem)
structure Grt(ts g:List (List Str)):Prop where
 sub:g.Sublist ts
 two:2<=g.length
 flw:(coG g).isSome=true
 most:∀p,p.Sublist ts->(coG p).isSome=true->p.length<=g.length
theorem gXn(he:∀t∈ts,Srt t)(hp:p.Sublist ts)(h:(coG p).isSome=true):2<=p.length:=((aXb λo d=>(he o (hp.subset d)).nodup).mp h).1
theorem dJm{ts out:List (List Str)}(hs:SrtT ts)(he:∀t∈ts,Srt t)(om:∀t,t∈c::cs↔t∈mets ts):Grt ts ((bst (lbs ts c) (cs.map (lbs ts))).map (gT ts)):=by
 obtain⟨B,z⟩:=bZg (cs.map (lbs ts)) (lbs ts c);rw[show lbs ts c::cs.map (lbs ts)=(c::cs).map (lbs ts) from rfl] at B z
 generalize bst (lbs ts c) (cs.map (lbs ts))=R at B z;obtain⟨J,j,rfl⟩:=av.mp B;obtain⟨f1,f2,G⟩:=fXq hs he ((om J).mp j);refine⟨f1,f2,G,λp D co=>?_⟩;obtain⟨d,hd⟩:=bn.mp co;obtain⟨md,ld⟩:=fXr hs he D (gXn he D co) hd;rw[ae];exact aH ld (betL (z _ (av.mpr ⟨d,(om d).mpr md,rfl⟩)))
theorem cJ9(h:mets ts=[]):ts.length<2:=aK λz=>by
 obtain⟨a,b,d⟩:=pair_sub (show 2<=ts.length by lia)
 have:mt2 [a,b]∈mets ts:=av.mpr ⟨_,aZd d,rfl⟩
 rw[h] at this;cases this
def by2{α:Type}:List α->List (List α)
 |[]=>[]
 |[x]=>[[x]]
 |x::y::l=>[x,y]::by2 l
theorem dJn:∀l:List α,(by2 l).length=(l.length+1)/2
 |[]=>by simp[by2]
 |[x]=>by simp[by2]
 |x::y::l=>by
  have:=dJn l
  unfold by2;simp only[aG,this];lia
theorem bJk:∀l:List α,(by2 l).flatten=l
 |[]=>rfl
 |[x]=>rfl
 |x::y::l=>by
  unfold by2;rw[c6,bJk l];rfl
theorem cJa:∀(l:List α),∀p∈by2 l,(∃x,p=[x])\/∃x y,p=[x,y]
 |[],p,h=>by cases h
 |[x],p,h=>.inl ⟨x,aF.mp h⟩
 |x::y::l,p,h=>by
  rcases aw.mp h with rfl|h
  ·exact .inr ⟨x,y,rfl⟩
  ·exact cJa l p h
theorem cJb(hs:SrtT ts)(he:∀t∈ts,Srt t)(f:FW ts r):r.length<=(ts.length+1)/2:=by
 rw[<- dJn];refine bZf hs f (by rw[bJk]) λp d=>?_
 have sub:p.Sublist ts:=by
  have:=jg d
  rwa [bJk] at this
 rcases cJa ts p d with⟨x,rfl⟩|⟨x,y,rfl⟩
 ·exact⟨sub,by simp,rfl⟩
 ·refine⟨sub,by simp,(bZi (hs.nodup.sublist sub) λo G=>he o (sub.subset G)).mpr (.inr ⟨am _,meG x y,λa z b j ne=>?_⟩)⟩
  have D:=he x (sub.subset (by simp))
  have B:=he y (sub.subset (by simp))
  simp only[aw,fy,or_false] at z j;rcases z with rfl|rfl <;> rcases j with rfl|rfl
  ·exact absurd rfl ne
  ·rfl
  ·exact cZr B D
  ·exact absurd rfl ne
theorem fXs(hs:SrtT ts)(he:∀t∈ts,Srt t)(h2:2<=ts.length)(f:FW ts r):r.length=1↔(coG ts).isSome=true:=by
 constructor
 ·intro h
  match r,h,f with
  |[p],_,f =>
   obtain⟨j,_,d⟩:=f.cp.each p (by simp)
   have e:=j.eq_of_length (by have:=f.cp.perm.length_eq;simpa using this)
   subst e;exact bXf d h2
 ·intro h;have h1:=bZf (ps:=[ts]) hs f (by simp) λp B=>by
   rw[aF.mp B];exact⟨cZ _,λz=>by rw[z] at h2;simp at h2,by unfold okP;rw[h,Bool.or_true]⟩
  have h0:r≠[]:=λz=>by
   have:=f.cp.perm.length_eq
   rw[z] at this;simp at this;lia
  have:=fx.mpr h0
  have:[ts].length=1:=rfl
  lia
theorem fXt(h:Grt ts g):g=ts↔(coG ts).isSome=true :=
 ⟨λe=>e▸h.flw,λc=>h.sub.eq_of_length_le (h.most ts (cZ _) c)⟩
theorem eJc(h2:2<=p.length):okP p=true↔(coG p).isSome=true :=
 ⟨λh=>bXf h h2,λh=>by unfold okP;rw[h,Bool.or_true]⟩
theorem mem_flS:b∈flO ts k↔b.Sublist ts/\b.length=k/\(coG b).isSome=true:=by
 unfold flO;rw[ao];constructor
 ·rintro⟨h1,h2⟩;exact⟨(ch_mem h1).2,(ch_mem h1).1,h2⟩
 ·rintro⟨h1,rfl,d⟩;exact⟨aZd h1,d⟩
section
variable{ts us:List (List Str)}{f:List Str->List Str}(hs:SrtT ts)(hu:SrtT us)(eu:∀u∈us,Srt u)(fm:∀t∈ts,f t∈us)(fb:∀u∈us,∃t∈ts,f t=u)(fi:∀a∈ts,∀b∈ts,f a=f b->a=b)(fo:∀p,p.Sublist ts->(okP (p.map f)=true↔okP p=true))
include hs hu fm fb fi
theorem bZl(hp:p.Sublist us):((ts.filter λt=>decide (f t∈p)).map f).Perm p:=by
 refine(cI (bu.mpr (be (λ{a b} z j n e=>n (fi a (ao.mp z).1 b (ao.mp j).1 e)) (hs.nodup.filter _))) (hu.nodup.sublist hp)).mpr λu=>?_;rw[av];constructor
 ·rintro⟨t,d,rfl⟩;exact of_decide_eq_true (ao.mp d).2
 ·intro h;obtain⟨t,d,e⟩:=fb u (hp.subset h);exact⟨t,ao.mpr ⟨d,decide_eq_true (e▸h)⟩,e⟩
include eu fo
theorem fXu(hp:p.Sublist us)(h:okP p=true):okP (ts.filter λt=>decide (f t∈p))=true:=by
 have pm:=bZl hs hu fm fb fi hp;refine(fo _ bj).mp (cZs (hu.nodup.sublist hp) (pm.nodup_iff.mpr (hu.nodup.sublist hp)) (λo d=>eu o (hp.subset d)) (λx=>pm.mem_iff.symm) h)
theorem cJc(F:FW ts r)(F':FW us r'):r.length<=r'.length:=by
 have:=bZf (ps:=r'.map λp=>ts.filter λt=>decide (f t∈p)) hs F ?_ ?_
 ·rwa [ae] at this
 ·have nd:=F'.cp.perm.nodup_iff.mpr hu.nodup;obtain⟨_,B⟩:=iy.mp nd;refine(cI (iy.mpr ⟨λl hl=>?_,bu.mpr (B.imp λ{p q} h a L b J e=>?_)⟩) hs.nodup).mpr λt=>?_
  ·obtain⟨p,_,rfl⟩:=av.mp hl;exact hs.nodup.filter _
  ·subst e;exact h _ (of_decide_eq_true (ao.mp L).2) _ (of_decide_eq_true (ao.mp J).2) rfl
  ·rw[de];constructor
   ·rintro⟨l,hl,d⟩;obtain⟨p,_,rfl⟩:=av.mp hl;exact(ao.mp d).1
   ·intro d;obtain⟨p,j,h⟩:=de.mp (F'.cp.perm.mem_iff.mpr (fm t d));exact⟨_,av.mpr ⟨p,j,rfl⟩,ao.mpr ⟨d,decide_eq_true h⟩⟩
 ·intro l hl;obtain⟨p,j,rfl⟩:=av.mp hl;obtain⟨D,p2,G⟩:=F'.cp.each p j;refine⟨bj,λz=>p2 ?_,fXu hs hu eu fm fb fi fo D G⟩
  have:=(bZl hs hu fm fb fi D).length_eq
  rw[z] at this;exact bD this.symm
theorem cJd(M:MfS ts (flO ts 3) (-1) r)(M':MfS us (flO us 3) (-1) r')(et:∀t∈ts,Srt t):r'.length<=r.length:=by
 have pm:=bZl hs hu fm fb fi M'.sub;rw[<- pm.length_eq,ae];refine M.most _ bj λb Z D=>?_;obtain⟨z,b2,b3⟩:=mem_flS.mp Z;have N:=(fo b z).mpr ((eJc (by lia)).mpr b3)
 have nb:=hs.nodup.sublist z;have d:(b.map f).Nodup:=bu.mpr (be (λ{x y} D U n e=>n (fi x (z.subset D) y (z.subset U) e)) nb);have j:∀u∈b.map f,u∈us:=λu h=>by obtain⟨t,G,rfl⟩:=av.mp h;exact fm t (z.subset G)
 have J:(us.filter λu=>decide (u∈b.map f)).Nodup:=hu.nodup.filter _;have B:∀x,x∈b.map f↔x∈us.filter λu=>decide (u∈b.map f):=λx=>by
  rw[ao,decide_eq_true_iff];exact⟨λh=>⟨j x h,h⟩,λh=>h.2⟩
 have L:=cZs d J (λo Y=>eu o (j o Y)) B N;have O:(us.filter λu=>decide (u∈b.map f)).length=3:=by
  rw[<- ((cI d J).mpr B).length_eq,ae];exact b2
 refine M'.free _ (mem_flS.mpr ⟨bj,O,(eJc (by lia)).mp L⟩) λx h=>?_
 obtain⟨t,G,rfl⟩:=av.mp ((B x).mpr h);exact of_decide_eq_true (ao.mp (D t G)).2
end
theorem eX2(hs:SrtT ts)(hu:SrtT us)(hm:∀t,t∈us↔t∈ts\/t=m)(hn:m∉ts)(M:MfS ts (flO ts 3) (-1) r)(M':MfS us (flO us 3) (-1) r'):r.length<=r'.length/\r'.length<=r.length+1:=by
 have j:=λt d=>(hm t).mpr (.inl d);constructor
 ·refine M'.most r (aJv (hs.sublist M.sub) hu λt d=>j t (M.sub.subset d)) λb G B=>?_;obtain⟨D,L,J⟩:=mem_flS.mp G;exact M.free b (mem_flS.mpr ⟨aJv (hu.sublist D) hs λt d=>M.sub.subset (B t d),L,J⟩) B
 ·have h1:=M.most (r'.filter λt=>!decide (t=m)) (aJv (hu.sublist (bj.trans M'.sub)) hs λt d=>?_) λb G B=>?_
  ·have e:=bJd (λt=>decide (t=m)) r'
   have:(r'.filter λt=>decide (t=m)).length<=1:=by
    have nd:(r'.filter λt=>decide (t=m)).Nodup:=(hu.nodup.sublist M'.sub).filter _
    have:=nd.length_le_of_subset (l₂:=[m]) λt d=>by rw[of_decide_eq_true (ao.mp d).2];simp
    exact this
   lia
  ·obtain⟨h1,h2⟩:=ao.mp d;rcases(hm t).mp (M'.sub.subset h1) with z|z
   ·exact z
   ·simp[z] at h2
  ·obtain⟨D,L,J⟩:=mem_flS.mp G;exact M'.free b (mem_flS.mpr ⟨aJv (hs.sublist D) hu λt d=>j t (D.subset d),L,J⟩) λx h=>(ao.mp (B x h)).1
theorem fXv(hl:ms.length=ns.length)(nn:ns.Nodup)(nm:ms.Nodup)(hs:SrtT ts)(he:∀t∈ts,Srt t/\∀n∈t,n∈ns)(hu:SrtT us)(um:∀u,u∈us↔∃t∈ts,cl ns ms t=u)  :(∀r r',FW ts r->FW us r'->r'.length=r.length)/\∀b b',MfS ts (flO ts 3) (-1) b->MfS us (flO us 3) (-1) b'->b'.length=b.length:=by
 have bk:=λt d=>aJx hl nn nm (he t d).1 (he t d).2;have eu:∀u∈us,Srt u/\∀n∈u,n∈ms:=λu h=>by
  obtain⟨t,d,rfl⟩:=(um u).mp h;exact⟨bZj hl nm (he t d).1.nodup (he t d).2,λn hn=>eJb hl nm (he t d).2 hn⟩
 have Y:∀a∈ts,∀b∈ts,cl ns ms a=cl ns ms b->a=b:=λa J b G e=>by rw[<- bk a J,e,bk b G]
 have D:∀u∈us,cl ns ms (cl ms ns u)=u:=λu h=>by
  obtain⟨t,d,rfl⟩:=(um u).mp h;rw[bk t d]
 have U:∀a∈us,∀b∈us,cl ms ns a=cl ms ns b->a=b:=λa J b G e=>by rw[<- D a J,e,D b G]
 have f1:=λt d=>(um _).mpr ⟨t,d,rfl⟩;have b1:=λu h=>(um u).mp h;have f2:∀u∈us,cl ms ns u∈ts:=λu h=>by
  obtain⟨t,d,rfl⟩:=(um u).mp h;rw[bk t d];exact d
 have Z:∀t∈ts,∃u∈us,cl ms ns u=t:=λt d=>⟨_,f1 t d,bk t d⟩;have O:∀p,p.Sublist ts->(okP (p.map (cl ns ms))=true↔okP p=true):=λp j=>gXm hl nn nm (hs.nodup.sublist j) (λo z=>(he o (j.subset z)).1) λo z=>(he o (j.subset z)).2;have N:∀p,p.Sublist us->(okP (p.map (cl ms ns))=true↔okP p=true):=λp j=>gXm hl.symm nm nn (hu.nodup.sublist j) (λo z=>(eu o (j.subset z)).1) λo z=>(eu o (j.subset z)).2;have L:=λt d=>(he t d).1;have B:=λu h=>(eu u h).1;exact⟨λr r' F F'=>kG (cJc hu hs L f2 Z U N F' F) (cJc hs hu B f1 b1 Y O F F'),λb b' M M'=>kG (cJd hs hu B f1 b1 Y O M M' L) (cJd hu hs L f2 Z U N M' M B)⟩
theorem gXo(c:CPs ts r):r.Pairwise λp q=>lexG HT.lexS p q=true:=by
 refine be (λ{p q} z j h=>?_) c.hd;have p2:=(c.each p z).2.1;have d:=(c.each q j).2.1
 match p,q,p2,d,h with
 |a::p,b::q,_,_,h =>
  have:=h a b rfl rfl
  rw[aZ9,if_neg λe=>by subst e;rw[aZ6] at this;cases this]
  exact this
end L2
namespace Toy
open PySem L2
abbrev s_parting_shown:Stmt:=top 23
theorem sc_parting_shown:FnScope ["sets", "parts", "written"] ["sets", "parts"] (aQ5 s_parting_shown):=fsc
def aX3:SpD:=λds S Q=>∃(ts:List (List Str)) (ps:List (List (List Str))),ds=[.tup (ts.map tupS),.tup (ps.map flE.e)]/\ps.flatten.Perm ts/\SrtT ts/\ts.length<=14/\ps.length<=14/\(∀t∈ts,t.length<=6)/\(∀p∈ps,okP p=true)/\Q (.bl true) S
section
variable{P:aA}{w:aO}{K:ar}{mg:Str->Option ad}{base:bd}{pt cc:Addr}
theorem bQ7(T:Tx K mg "parting_shown" s_parting_shown)(B:Bs mg)(d_is_part:Df P w K mg base 3 "is_part" ["part"] (spU K aZy)):Df P w K mg base 4 "parting_shown" ["sets", "parts"] (spU K aX3):=by
 refine aZ1 T sc_parting_shown (λF=>F.binds λ_ _ _ _ _ _=>us2 λ_ _=>rfl) ?_ λf cdv A outer s H E J=>⟨_,(aQ2 (aQb (i:=2) sc_parting_shown.nd rfl (aS rfl) (aZ7 (b:=false) J rfl B.sorted (aQ0 (aQq (oc:=none) (b:=false) [0,1] [1] rfl sc_parting_shown.nd (λ_ _ _=>bQn _ _ _ _ _ _ _ _ _ _ _ _) (.own (.own .nil)) (aQf rfl) (aQv (dv 1)) (cg_name) (λ_ _ _ _ _=>aQa (nd_ ["part", "one"]) rfl (aS rfl) (.inr rfl)) (λ_ _ _ _ _=>aQk) (bXx (cg_name) aQi) (λ_ _ _ _ _ _=>bXk (m:=λacc=>emitOf _ acc _) rfl rfl rfl (λ_=>bQo _ _ _ _ _ _ _ _ _ _ _ _) (PID.o (aQv (dv 0))) (aQa (nd_ ["part", "one"]) rfl (aS rfl) (.inr rfl)) (aQk) (aQg rfl (PD.o (dv 1))) (λ_=>rfl) (λ_=>rfl) (λ_=>rfl) (λ_=>rfl) (λ_=>rfl))) aQ1)))
  (aQ4 (aQ8 (gQz (e_eq J (dv 2) (cQ9 (b:=false) rfl B.list (aQ0 (dv 0) aQ1))) (dZz (eZ0 rfl B.all (aQ0 (aQq (oc:=none) (b:=false) [0] [] rfl sc_parting_shown.nd (λ_ _ _=>aQc ..) (.own .nil) (aQf rfl) (aQv (dv 1)) (cg_name) (λ_ _ _ _ _=>aQa (nd_ ["part"]) rfl (aS rfl) (.inr rfl)) (λ_ _ _ _ _=>aQk) aQi (λ_ _ _ _ _ _=>aQg rfl (PD.o (aQ3 d_is_part J rfl (aQ0 (dv 0) aQ1))))) aQ1))))))),?_⟩
 ·rintro ds S Q ⟨ts,ps,rfl,_⟩;rfl
 ·rintro ds S Q ⟨ts,ps,rfl,G,hs,h14,U,he,hok,q⟩;have pl:=G.length_eq;have sub:∀ p∈ps,p.length<=14/\∀ t∈p,t.length<=6:=λp d=>⟨by
   have:=(jg d).length_le
   lia,λt Y=>he t (G.mem_iff.mp (de.mpr ⟨p,d,Y⟩))⟩
  refine⟨_,rfl,aJa (λi acc S'=>acc=((ps.take i).flatten).map tupS/\S'=S) ⟨rfl,rfl⟩ ?_ ?_⟩
  ·rintro i x acc S' N z ⟨rfl,rfl⟩ Z;rw[aY,bO] at z;obtain⟨p,z,rfl⟩:=z;have O:(ps.take (i+1)).flatten=(ps.take i).flatten++p:=by rw[cM,z,gB];simp
   have L:=congrArg (λl=>(List.flatten l).length) (b7 (i+1) ps);simp only[gB,ax] at L;rw[O,ax] at L;exact⟨trivial,_,rfl,aQn (enc:=tupS) (λ_ _ _ q=>q) (aQd (by rw[ae];lia)) (Z _ _ ⟨by rw[O,bo],rfl⟩)⟩
  ·rintro acc S' ⟨rfl,rfl⟩;rw[ae,dF];have j:=G.nodup_iff.mpr hs.nodup;have es:=SrtT.ext (bJ8 j) hs λn=>by rw[cZk,G.mem_iff]
   refine⟨trivial,.inr (.inr ⟨ps.flatten,rfl,j,by lia,_,rfl,?_⟩)⟩
   rw[es];have ok:okE 9 (.lst (ts.map tupS)) (.lst (ts.map tupS))=true:=by
    have:=flE.ok 9 ts ts (by decide)
    exact this
   refine⟨ok,true,by simp,?_⟩
   refine⟨_,rfl,aQn (λp d Q q=>⟨p,rfl,(sub p d).1,(sub p d).2,q⟩) (aQd (by show 0+ps.length<=9999;lia)) ⟨ps.map okP,?_,aQ7 ?_⟩⟩
   ·rw[bi];rfl
   ·have:(ps.map okP).all id=true:=by
     rw[dr,ba];exact λp d=>hok p d
    show Q (D.bl ((ps.map okP).all id)) S';rw[this];exact q
end
abbrev s_has_all:Stmt:=top 1
theorem sc_has_all:FnScope ["one", "row"] ["one", "row"] (aQ5 s_has_all):=fsc
section
variable{P:aA}{w:aO}{K:ar}{mg:Str->Option ad}{base:bd}{pt cc:Addr}
theorem dQb(T:Tx K mg "has_all" s_has_all)(B:Bs mg):Df P w K mg base 1 "has_all" ["one", "row"] (spU K bXc):=by
 refine aZ1 T sc_has_all (λF=>F.binds λ_ _ _ _ _ _=>us2 λ_ _=>rfl) ?_ λf L A outer s H E G=>⟨_,(aQ4 (aQ8 (eZ0 rfl B.all (aQ0 (aQq (oc:=none) (b:=false) [0] [] rfl sc_has_all.nd (λ_ _ _=>aQc ..) (.own (.cap (i:=0) rfl (by decide +kernel) .nil)) (aQf rfl) (aQv (dv 1)) (cg_name) (λ_ _ _ _ _=>aQa (nd_ ["name", "one"]) rfl (aS rfl) (.inr rfl)) (λ_ _ _ _ _=>aQk) aQi (λ_ _ _ _ _ _=>aQg rfl (PD.o (e_in G (dv 0) (dv 1))))) aQ1)))),?_⟩
 ·rintro ds S Q ⟨α,dα,E,one,row,j,J,rfl,_⟩;rfl
 ·rintro ds S Q ⟨α,dα,E,one,row,j,J,rfl,N,h1,h2,hl,q⟩;have go:∀Q':List D->Sto->Prop,Q' (row.map λd=>D.bl (decide (d∈one))) S->aZn (aZp 0) dYes (bXw (dOp (inD false) (dVar 0) (dVar 1))) (λ_=>True) [none,some j] (row.map E.e) [] S Q':=λQ' z =>
   aQn (λd hd Q q=>in_e (by lia) h1.sq q) (aQd (by show 0+row.length<=_;lia)) z
  have e:(row.map λd=>decide (d∈one)).all id=has one row:=by rw[dr];rfl
  rw[<- e] at q;rcases h2 with rfl|rfl
  ·exact⟨row.map E.e,rfl,go _ ⟨row.map λd=>decide (d∈one),by rw[bi];rfl,aQ7 q⟩⟩
  ·exact⟨row.map E.e,rfl,go _ ⟨row.map λd=>decide (d∈one),by rw[bi];rfl,aQ7 q⟩⟩
end
abbrev s_meet_of:Stmt:=top 3
theorem sc_meet_of:FnScope ["one", "other"] ["one", "other"] (aQ5 s_meet_of):=fsc
section
variable{P:aA}{w:aO}{K:ar}{mg:Str->Option ad}{base:bd}{pt cc:Addr}
theorem dQc(T:Tx K mg "meet_of" s_meet_of)(B:Bs mg):Df P w K mg base 1 "meet_of" ["one", "other"] (spU K aJu):=by
 refine aZ1 T sc_meet_of (λF=>F.binds λ_ _ _ _ _ _=>us2 λ_ _=>rfl) ?_ λf z A outer s H E j=>⟨_,(aQ4 (aQ8 (aZ3 rfl B.tuple (aQ0 (aQq (oc:=none) (b:=false) [0] [] rfl sc_meet_of.nd (λ_ _ _=>aQc ..) (.own (.cap (i:=1) rfl (by decide +kernel) .nil)) (aQf rfl) (aQv (dv 0)) (cg_name) (λ_ _ _ _ _=>aQa (nd_ ["name", "other"]) rfl (aS rfl) (.inr rfl)) (λ_ _ _ _ _=>aZj ((gQu j (dv 0) (dv 1)))) aQi (λ_ _ _ _ _ _=>aQg rfl (PD.o (dv 0)))) aQ1)))),?_⟩
 ·rintro ds S Q ⟨one,row,rfl,_⟩;rfl
 ·rintro ds S Q ⟨one,row,rfl,hl,q⟩;exact⟨one.map D.str,rfl,aQt (λx d Q q=>in_t (E:=strE) (by decide) rfl q) (λx d _ Q q=>q) (aQd (by show 0+one.length<=_;lia)) ⟨_,rfl,aQ7 q⟩⟩
end
abbrev s_most_beside:Stmt:=top 15
theorem sc_most_beside:FnScope ["sets", "core", "having", "meeting"] ["sets", "core"] (aQ5 s_most_beside):=fsc
def aXu:SpD:=λds S Q=>∃(ts:List (List Str)) (core:List Str),ds=[.tup (ts.map tupS),tupS core]/\SrtT ts/\ts.length<=14/\(∀t∈ts,Srt t/\t.length<=12)/\core.length<=99/\∀r,MfS (hav ts core) (mtg (hav ts core) core) (-1) r->Q (.tup (r.map tupS)) S
section
variable{P:aA}{w:aO}{K:ar}{mg:Str->Option ad}{base:bd}{pt cc:Addr}
theorem bZw(T:Tx K mg "most_beside" s_most_beside)(B:Bs mg)(d_has_all:Df P w K mg base 37 "has_all" ["one", "row"] (spU K bXc))(d_choices_of:Df P w K mg base 37 "choices_of" ["things", "many"] (spU K aZe))(d_meet_of:Df P w K mg base 37 "meet_of" ["one", "other"] (spU K aJu))(d_most_free:Df P w K mg base 37 "most_free" ["things", "barred", "over"] (spU K aXe)):Df P w K mg base 38 "most_beside" ["sets", "core"] (spU K aXu):=by
 refine aZ1 T sc_most_beside (λF=>F.binds λ_ _ _ _ _ _=>us2 λ_ _=>rfl) ?_ λf Z A outer s H E z=>⟨_,(aQ2 (aQb (i:=2) sc_most_beside.nd rfl (aS rfl) (aZ3 rfl B.tuple (aQ0 (aQq (oc:=none) (b:=false) [0] [] rfl sc_most_beside.nd (λ_ _ _=>aQc ..) (.own (.cap (i:=1) rfl (by decide +kernel) .nil)) (aQf rfl) (aQv (dv 0)) (cg_name) (λ_ _ _ _ _=>aQa (nd_ ["one", "core"]) rfl (aS rfl) (.inr rfl)) (λ_ _ _ _ _=>aZj ((aJ7 (aQ3 d_has_all z rfl (aQ0 (dv 0) (aQ0 (dv 1) aQ1)))))) aQi (λ_ _ _ _ _ _=>aQg rfl (PD.o (dv 0)))) aQ1)))
  (aQ2 (aJ1 (i:=3) rfl (aS rfl) (oc:=none) (b:=false) [0] [] rfl sc_most_beside.nd (λ_ _ _=>aQc ..) (.own (.cap (i:=1) rfl (by decide +kernel) .nil)) (aQf rfl) (aQv (aQ3 d_choices_of z rfl (aQ0 (dv 2) (aQ0 aQ6 aQ1)))) (cg_name) (λ_ _ _ _ _=>aQa (nd_ ["pair", "core"]) rfl (aS rfl) (.inr rfl)) (λ_ _ _ _ _=>aZj ((cJz z (aQ3 d_meet_of z rfl (aQ0 (e_ix (dv 0) aQ6) (aQ0 (e_ix (dv 0) aQ6) aQ1))) (dv 1)))) aQi (λ_ _ _ _ _ _=>aQg rfl (PD.o (dv 0))))
  (aQ4 (aQ8 (aQ3 d_most_free z rfl (aQ0 (dv 2) (aQ0 (dv 3) (aQ0 (fQu aQ6) aQ1)))))))),?_⟩
 ·rintro ds S Q ⟨ts,core,rfl,_⟩;rfl
 ·rintro ds S Q ⟨ts,core,rfl,hs,O,he,hc,q⟩;refine⟨_,rfl,aQt (λt J Q q=>⟨Str,inferInstance,strE,t,core,tupS t,tupS core,rfl,by decide,.inl rfl,.inl rfl,by lia,q⟩) (λt J _ Q q=>q) (aQd (by show 0+ts.length<=_;lia)) ⟨_,rfl,?_⟩⟩
  rw[c9];have hl:(hav ts core).length<=14:=aH (bv _ _) O;have G:(hav ts core).Nodup:=hs.nodup.filter _;have L:∀t∈hav ts core,Srt t/\t.length<=12:=λt J=>he t (ao.mp J).1;have many:(Toy.ch (hav ts core) 2).length<=9999:=by
   have h2:=cZn (hav ts core) 2
   have:2^((hav ts core).length-1)<=2^13:=d7 (by decide) (by lia)
   lia
  refine⟨(hav ts core).map tupS,2,rfl,by decide,by rw[ae];lia,(Toy.ch (hav ts core) 2).map (λs=>D.tup (s.map tupS)),(by rw[Toy.ch_map,bi];rfl),aQt (p:=λp=>!decide (mt2 p=core)) (λp U Q q=>?_) (λp U _ Q q=>q) (aQd (by show 0+(Toy.ch (hav ts core) 2).length<=_;lia)) ?_⟩
  ·obtain⟨a,b,rfl,N⟩:=aZs U;have ha:=L a (N.subset (by simp))
   refine⟨_,_,rfl,aZa rfl,_,_,rfl,aZa rfl,a,b,rfl,by lia,?_⟩
   refine⟨setE.ok 9 _ _ (by decide),_,rfl,?_⟩
   have e:decide (tupS (a.filter λd=>decide (d∈b))=tupS core)=decide (mt2 [a,b]=core):=decide_eq_decide.mpr ⟨λh=>setE.inj h,λh=>by rw[<- h];rfl⟩
   rw[e];exact q
  ·rw[c9];refine⟨_,inferInstance,setE,hav ts core,mtg (hav ts core) core,-1,rfl,by decide,G,by lia,by lia,eZv _ hl core,λb Y=>?_,fXh G core,λm hm=>?_⟩
   ·have:=(Toy.ch_mem (ao.mp Y).1).1;lia
   cases m with
   |none=>exact absurd (hm [] (eH _) (fXi _ core)) (by decide)
   |some r=>exact aQ7 (q r hm)
end
abbrev s_cores_of_two:Stmt:=top 14
theorem sc_cores_of_two:FnScope ["sets"] ["sets"] (aQ5 s_cores_of_two):=fsc
def aXh:SpD:=λds S Q=>∃(ts:List (List Str)),ds=[.tup (ts.map tupS)]/\ts.length<=14/\ts.length<=11/\(∀t∈ts,t.length<=12)/\∀out,SrtT out->(∀t,t∈out↔t∈mets ts)->Q (.lst (out.map tupS)) S
section
variable{P:aA}{w:aO}{K:ar}{mg:Str->Option ad}{base:bd}{pt cc:Addr}
theorem bZm(T:Tx K mg "cores_of_two" s_cores_of_two)(B:Bs mg)(d_choices_of:Df P w K mg base 9 "choices_of" ["things", "many"] (spU K aZe))(d_meet_of:Df P w K mg base 9 "meet_of" ["one", "other"] (spU K aJu)):Df P w K mg base 10 "cores_of_two" ["sets"] (spU K aXh):=by
 refine aZ1 T sc_cores_of_two (λF=>F.binds λ_ _ _ _ _ _=>us1 λ_=>rfl) ?_ λf cdv A outer s H E z=>⟨_,(aQ4 (aQ8 (fZx (oc:=none) (b:=false) [0,1] [] z rfl B.sorted rfl sc_cores_of_two.nd (λ_ _ _=>dXv ..) (.own (.own .nil)) (aQf rfl) (aQv (aQ3 d_choices_of z rfl (aQ0 (dv 0) (aQ0 aQ6 aQ1)))) (fZc) (λ_ _ _ _ _=>eX7 rfl (bXg (aQa (nd_ ["one", "other"]) rfl (aS rfl) (.inr rfl)) (bXg (aQa (nd_ ["one", "other"]) rfl (aS rfl) (.inr rfl)) dQg))) (λ_ _ _ _ _=>aQk) gX1 (λ_ _ _ _ _ _=>(eZe rfl (lt10 z) rfl rfl rfl (PD.o (aQ3 d_meet_of z rfl (aQ0 (dv 0) (aQ0 (dv 1) aQ1))))))))),?_⟩
 ·rintro ds S Q ⟨ts,rfl,_⟩;rfl
 ·rintro ds S Q ⟨ts,rfl,U,Y,he,q⟩;have Z:=cJ7 ts U;have ml2:(Toy.ch ts 2).length<=91:=by rw[mets,ae] at Z;exact Z
  refine⟨ts.map tupS,2,rfl,by decide,by rw[ae];lia,(Toy.ch ts 2).map (λs=>D.tup (s.map tupS)),(by rw[Toy.ch_map,bi];rfl),?_⟩
  refine aJa (λi acc S'=>S'=S/\acc=(((Toy.ch ts 2).take i).map mt2).map tupS) ⟨rfl,rfl⟩ ?_ ?_
  ·rintro i x acc S' N hx ⟨rfl,rfl⟩ hN;rw[aY,bO] at hx;obtain⟨p,L,rfl⟩:=hx;obtain⟨a,b,rfl,O⟩:=aZs (bS L);have hi:=(a9.mp L).1;have ha:=he a (O.subset (by simp))
   refine⟨trivial,rfl,rfl,a,b,rfl,by lia,mt2 [a,b],rfl,?_,hN _ _ ⟨rfl,?_⟩⟩
   ·rw[ae,ae,a7];lia
   ·rw[cM,L,bo,bo];rfl
  ·rintro acc S' ⟨rfl,rfl⟩;rw[ae,dF];refine⟨trivial,mets ts,rfl,λout J d=>⟨?_,λG=>aQ7 (q out G d)⟩⟩
   have:=J.length_le_of_subset λt ht=>(d t).mp ht
   have:=dJi ts Y
   lia
end
end Toy
namespace L2
open PySem PySem.Spec PyProof.Rows
theorem dJo{P:aA}{w:aO}{K:ar}{mg mb:Str->Option ad}{k:Nat}{fa a c pt:Addr}{fd:dz}{x:Str}{sp:Sp}{s₁:ai}{vs:List ad}{ns:List Int}
  (KX:K.In s₁.heap) (hns:s₁.heap.Ns aX mg) (hb:s₁.heap.Ns iz mb) (hbb:∀x:Str,x ≠ "__name__"->mb x=cG x) (hlim:s₁.heap.NoLimit) (hg:s₁.gens=#[])
  (ha:s₁.heap.get? a=some {cls:=.type "list",data:=.seq vs.toArray}) (hi:kh vs ns) (hl:ns.length<=sizeLine) (hr:Room k callerA)
  (T:TabF s₁.heap mg c pt) (hpt:s₁.heap.get? pt=some (im #[])) (noP:K.lookup pt=none)
  (F:∀base:bd,K.In base->base.Ns aX mg->TabF base mg c pt->FnOk P w K mg base CX0 k fa fd [x] sp) (hbind:∀(s:ai) (u:ad),BindsTo s fd ⟨[u],[]⟩ [(x,u)])
  (hsp:∀H:Hp,H pt=some (.tbl #[])->SqL K H a (ns.map V.int)->sp [.ref a] H (λv _=>v=.bl true) λ_ _ _=>False) :
  fv (aE P w) callerA (.call (.ref fa) ⟨[.ref a],[]⟩) (λr s'=>r=.ok (.ret (.bool true))/\OldK s₁.heap s'.heap/\s'.os=s₁.os/\jH s'.gens) s₁:=by
 have rv:=bQk hi;have L:=hi.length;have N:a≠pt:=λz=>by rw[z,hpt] at ha;cases ha
 have core:∀H:Hp,H pt=some (.tbl #[])->(∀b,b≠pt->H b=none\/∃o xs,H b=some (.frz o (.lst xs)))->SqL K H a (ns.map V.int)->HOk P w H s₁.heap->(∀b,H b≠none->b=a\/b=pt)->(H a≠none->K.lookup a=none) ->
   fv (aE P w) callerA (.call (.ref fa) ⟨[.ref a],[]⟩) (λr s'=>r=.ok (.ret (.bool true))/\OldK s₁.heap s'.heap/\s'.os=s₁.os/\jH s'.gens) s₁:=by
  intro H hP hO hS hok hA hK;have j:∀{b:Addr}{o:Obj},s₁.heap.get? b=some o->H b=none->(hidT s₁.heap H).get? b=some o:=λe n=>eQ2 e n;have free:∀{b:Addr}{o:Obj},s₁.heap.get? b=some o->(∀xs n,o.data≠.seq xs n)->o≠im #[]->H b=none:=λ{b o} e n1 n2=>by
   cases q:H b with
   |none=>rfl
   |some u =>
    rcases hA b (by rw[q];simp) with J|J
    ·subst J;rw[ha] at e;cases e;exact absurd rfl (n1 _ _)
    ·subst J;rw[hpt] at e;cases e;exact absurd rfl n2
  have Z:∀{b:Addr}{o:Obj}{es:Array DictEntry}{U:Nat},s₁.heap.get? b=some o->o.data=.dict es U->H b=none:=λ{b o es U} e d =>
   free e (λxs n z=>by rw[d] at z;cases z) λz=>by rw[z] at d;cases d
  have B:∀ {b:Addr} {m:Str->Option ad},s₁.heap.Ns b m->(hidT s₁.heap H).Ns b m:=λ{b m} ⟨o,es,U,e,d,r⟩=>⟨o,es,U,j e (Z e d),d,r⟩;have O:=λb o e=>j (KX b o e) (by
   cases q:H b with
   |none=>rfl
   |some u =>
    rcases hA b (by rw[q];simp) with J|J
    ·subst J;rw[hK (by rw[q];simp)] at e;cases e
    ·subst J;rw[noP] at e;cases e)
  have hM:Mod K mg (hidT s₁.heap H):=⟨O,B hns,⟨mb,B hb,hbb⟩,let ⟨mc,h1,h2⟩:=hlim;⟨mc,B h1,h2⟩⟩
  have hT:TabF (hidT s₁.heap H) mg c pt:=by
   refine⟨?_,?_⟩
   ·obtain⟨o,us,file,tf,flags,tg,inF,text,tt,e,cl,d,r⟩:=T.hd;exact⟨o,us,file,tf,flags,tg,inF,text,tt,j e (free e (λxs n z=>by rw[d] at z;cases z) λz=>by rw[z] at cl;cases cl),cl,d,r⟩
   ·obtain⟨bm,Y,b1,b2,b3,b4,b5,b6⟩:=T.bm;exact⟨bm,Y,b1,b2,j b3 (free b3 (λxs n z=>by rw[b6] at z;cases z) λz=>by rw[z] at b6;cases b6),b4,b5,b6⟩
  have e0:Env0 P w K mg (hidT s₁.heap H) callerA [] s₁ H:=⟨rfl,rfl,hM,λb o e=>eJg e,Nat.le_of_eq (dQf _ _),trivial,λb hb=>absurd (show b∈([]) from hb) (by simp),hok,.of_eq hg⟩
  refine gp ((F _ O (B hns) hT).run callerA [] s₁ H ⟨[.ref a],[]⟩ [.ref a] [.ref a] _ _ hr e0 (hbind s₁ (.ref a)) (.cons rfl .nil) (hsp H hP hS)) λr s' h=>?_;cases r with
  |error e=>exact dU h
  |ok fl =>
   cases fl with
   |next=>exact dU h
   |brk=>exact dU h
   |cont=>exact dU h
   |ret u =>
    obtain⟨v,H',os,bare,un,G,r',q⟩:=h;have q':=q;subst q';obtain rfl:u=kb true:=r';have keep:=λb o nb e=>by
     cases q:H b with
     |none=>exact un.keep b o e q (by intro z;exact absurd (show b∈([]) from z) (by simp)) (by simp)
     |some u =>
      rcases hO b nb with z|⟨Y,xs,z⟩
      ·rw[q] at z;cases z
      ·have z2:=un.frzs b Y _ z;obtain⟨e1,_⟩:=hok b _ z;obtain⟨e2,_⟩:=G b _ z2;rw[e] at e1;cases e1;exact e2
    obtain⟨more,em⟩:=un.tbls pt #[] hP;have gm:=G pt _ em;refine⟨rfl,⟨λb o e=>?_,λb o e=>?_⟩,os,bare⟩
    ·by_cases z:b=pt
     ·subst z;rw[hpt] at e;cases e;exact .inr (.inl ⟨(T.hd.tab hpt).isCodeTable,rfl,#[],more,rfl,gm⟩)
     ·exact .inl (keep b o z e)
    ·by_cases z:b=pt
     ·subst z;exact⟨_,gm⟩
     ·exact⟨o,keep b o z e⟩
 cases hk:K.lookup a with
 |some o =>
  have e:=KX a o hk;rw[ha] at e;cases e;refine core (λb=>if b=pt then some (.tbl #[]) else none) (if_pos rfl) (λb hb=>.inl (if_neg hb)) (.inr ⟨_,vs.toArray,_,hk,rfl,rfl,rfl,by rw[aq,L];exact hl,by simpa using rv⟩) (λb u z=>?_) (λb z=>?_) λz=>absurd (if_neg N) z
  ·by_cases hb:b=pt
   ·have z':=(if_pos hb).symm.trans z;cases z';subst hb;exact hpt
   ·have z':=(if_neg hb).symm.trans z;cases z'
  ·by_cases hb:b=pt
   ·exact .inr hb
   ·exact absurd (if_neg hb) z
 |none =>
  refine core (λb=>if b=pt then some (.tbl #[]) else if b=a then some (.frz {cls:=.type "list",data:=.seq vs.toArray} (.lst (ns.map V.int))) else none) (if_pos rfl) (λb D=>?_) (.inl (.inr ⟨{cls:=.type "list",data:=.seq vs.toArray},(if_neg N).trans (if_pos rfl)⟩)) (λb u z=>?_) (λb z=>?_) λ_=>hk
  ·by_cases hb:b=a
   ·exact .inr ⟨_,_,(if_neg D).trans (if_pos hb)⟩
   ·exact .inl ((if_neg D).trans (if_neg hb))
  ·by_cases D:b=pt
   ·have z':=(if_pos D).symm.trans z;cases z';subst D;exact hpt
   ·have z:=(if_neg D).symm.trans z
    by_cases hb:b=a
    ·have z':=(if_pos hb).symm.trans z;cases z';subst hb;exact⟨ha,by rw[ae];exact hl,vs,_,rv,ha⟩
    ·have z':=(if_neg hb).symm.trans z;cases z'
  ·by_cases D:b=pt
   ·exact .inr D
   ·by_cases hb:b=a
    ·exact .inl hb
    ·exact absurd ((if_neg D).trans (if_neg hb)) z
def cJe(pt:Addr)(lp:Pos)(qual:Str)(n:Nat):SpD:=λds S Q=>∃ns:List Int,ds=[.lst (ns.map D.int)]/\ns.length<=n/\S pt=some (.tb lp qual)/\(∀a,a≠pt->S a=none)/\∀S',Q (.bl true) S'
theorem fXw{K:Fg}{n:Nat}{H:Hp}{a pt:Addr}{lp:Pos}{qual:Str}{ns:List Int}(hl:ns.length<=n)(hP:H pt=some (.tbl #[]))(hS:SqL K H a (ns.map V.int)):spU K (cJe pt lp qual n) [.ref a] H (λv _=>v=.bl true) λ_ _ _=>False:=by
 have B:a≠pt\/SqL K (λ_=>none) a (ns.map V.int):=by
  rcases hS with r|z
  ·refine .inl λz=>?_;rcases r with r|⟨o,r⟩ <;> rw[z,hP] at r <;> cases r
  ·exact .inr (.inr z)
 refine⟨λ_=>False,λb=>if b=pt then some (.tb lp qual) else none,[.lst (ns.map D.int)],λd _=>d=.bl true,⟨λb o e=>?_,λ_ h=>h.elim⟩,RepL.cons ?_ RepL.nil,⟨ns,rfl,hl,if_pos rfl,λb j=>if_neg j,λ_=>rfl⟩,λv d H' S' _ _ h e=>by subst e;exact rbl h⟩
 ·by_cases j:b=pt
  ·rw[if_pos j] at e;cases e;subst j;exact⟨#[],hP,trivial,.inl rfl⟩
  ·rw[if_neg j] at e;cases e
 ·refine⟨a,_,rfl,?_,gZi⟩;rcases B with B|z
  ·rcases hS with r|z
   ·exact .inl ⟨λz=>z.elim (λw=>w (if_neg B)) id,r⟩
   ·exact .inr (.inr z)
  ·exact .inr z
def dJp(K:ar)(x:Str)(c:Addr):Prop:=∃f oc od fd sl,bT K aX x=some (some (.ref f))/\K.lookup f=some ⟨oc,od,.func fd,sl⟩/\fd.code=.ref c
theorem codeIn_mk{K:ar}(a:bT K aX x=some (some (.ref f)))(l:K.lookup f=some ⟨oc,od,.func fd,sl⟩)(e:fd.code=.ref c):dJp K x c:=⟨f,oc,od,fd,sl,a,l,e⟩
theorem dJq{K:ar}(X:K.In h)(G:h.Ns aX mg)(ht:dJp K x c):cQm K mg x c:=by
 obtain⟨z,oc,j,d,sl,a,l,e⟩:=ht;intro f o fd m lk hd;have e1:=k8 X G a;rw[m] at e1;cases e1;rw[l] at lk;cases lk;cases hd;exact e
def gXp(st:Stmt):Pos:=match aZb st with
 |[.Return (some (.Call _ _ (⟨_,.Lambda _ _ _ p,_⟩::_) _)) _]=>p
 |_=>⟨0,0,0,0⟩
abbrev lamQual(x:Str):Str:=x ++ ".<locals>." ++ "<lambda>"
theorem walkT{l:PySem.W.OpenLaw}{K:Params->ar}(hn:l.most=some 63)(hdf:d.params.defaults=[])
  (hY:∀(w:aO) (h:bd),YP w h->(K w.params).In h/\h.get? pt=some (im #[]))
  (R:∃ c:Addr,(∀ p,dJp (K p) x c)/\(∀ p,PySem.W.codeHdIn (K p) c pt=true)/\(∀ p,(K p).lookup pt=none) /\
   ∀(w:aO) (mg:Str->Option ad) (fa:Addr) (h:bd),(K w.params).In h->h.Ns aX mg->mg d.name=some (.ref fa)->cQm (K w.params) mg x c ->
   ∃fd:dz,(∀(s:ai) (u:ad),BindsTo s fd ⟨[u],[]⟩ [("script",u)])/\∀base:bd,(K w.params).In base->base.Ns aX mg->TabF base mg c pt->FnOk l.prog w (K w.params) mg base CX0 50 fa fd ["script"] (spU (K w.params) (cJe pt lp qual 63))) :
  PySem.W.WalkO q loose XP YP l.row.toRowW d [] (λf vs=>PySem.call f vs):=by
 obtain⟨c,L,O,B,F⟩:=R;refine Att.attach_call hn hdf λw s₀ J mg mb fa o pm cd doc a vs ns G Y ho hd Z D j hints hlen U=>?_;obtain⟨z,N⟩:=hY w _ Y;obtain⟨fd,hb,hF⟩:=F w mg fa _ z G.T.g D (dJq z G.T.g (L _));exact dJo z G.T.g G.T.b G.T.builtins G.T.nolimit U j hints (aH hlen (by decide)) ⟨rfl,by decide,by decide⟩ ⟨PySem.W.codeHd_of_K z (O _),G.T.bmain⟩ N (B _) hF hb λH hP hS=>fXw hlen hP hS
end L2
namespace Toy
open PySem L2
abbrev s_first_of_longest:Stmt:=top 12
theorem aJ3:FnScope ["found", "otherwise"] ["found", "otherwise"] (aQ5 s_first_of_longest):=fsc
abbrev lpos:Pos:=gXp s_first_of_longest
def eJd(pt:Addr):SpD:=λds S Q=>∃(d y:D) (xs:List D),ds=[d,y]/\S pt=some (.tb lpos (lamQual "first_of_longest"))/\sqIs S d xs/\okK xs/\Q (fXl y xs) S
section
variable{P:aA}{w:aO}{K:ar}{mg:Str->Option ad}{base:bd}{pt cc:Addr}
theorem aJ4(T:Tx K mg "first_of_longest" s_first_of_longest)(B:Bs mg)(CD:cQm K mg "first_of_longest" cc)(TF:TabF base mg cc pt):Df P w K mg base 1 "first_of_longest" ["found", "otherwise"] (spU K (eJd pt)):=by
 refine gXe T CD aJ3 (λF=>F.binds λ_ _ _ _ _ _=>us2 λ_ _=>rfl) ?_ λf A outer s H E j=>⟨_,(aQ4 (aQ8 (gXd 1 j rfl B.min B.len TF (dv 0)))),?_⟩
 ·rintro ds S Q ⟨d,y,xs,rfl,_⟩;rfl
 ·rintro ds S Q ⟨d,y,xs,rfl,z,hs,ok,q⟩;exact⟨z,xs,hs,ok,aQ7 q⟩
end
abbrev s_greatest_flower:Stmt:=top 11
theorem sc_greatest_flower:FnScope ["sets", "found"] ["sets"] (aQ5 s_greatest_flower):=fsc
def grt(ts:List (List Str)):List (List Str)->D
 |[]=>.non
 |c::cs=>rowD ts (bst (lbs ts c) (cs.map (lbs ts)))
def dJr(pt:Addr):SpD:=λds S Q=>∃(ts:List (List Str)),ds=[.tup (ts.map tupS)]/\S pt=some (.tb lpos (lamQual "first_of_longest"))/\SrtT ts/\ts.length<=14/\ts.length<=11/\(∀t∈ts,Srt t/\t.length<=12)/\∀out,SrtT out->(∀t,t∈out↔t∈mets ts)->Q (grt ts out) S
section
variable{P:aA}{w:aO}{K:ar}{mg:Str->Option ad}{base:bd}{pt cc:Addr}
theorem aJf(T:Tx K mg "greatest_flower" s_greatest_flower)(B:Bs mg)(d_most_beside:Df P w K mg base 38 "most_beside" ["sets", "core"] (spU K aXu))(d_cores_of_two:Df P w K mg base 38 "cores_of_two" ["sets"] (spU K aXh))(d_first_of_longest:Df P w K mg base 38 "first_of_longest" ["found", "otherwise"] (spU K (eJd pt))):Df P w K mg base 39 "greatest_flower" ["sets"] (spU K (dJr pt)):=by
 refine aZ1 T sc_greatest_flower (λF=>F.binds λ_ _ _ _ _ _=>us1 λ_=>rfl) ?_ λf Y A outer s H E z=>⟨_,(aQ2 (aJ1 (i:=1) rfl (aS rfl) (oc:=none) (b:=false) [0] [] rfl sc_greatest_flower.nd (λ_ _ _=>aQc ..) (.own (.cap (i:=0) rfl (by decide +kernel) .nil)) (aQf rfl) (aQv (aQ3 d_cores_of_two z rfl (aQ0 (dv 0) aQ1))) (cg_name) (λ_ _ _ _ _=>aQa (nd_ ["core", "sets"]) rfl (aS rfl) (.inr rfl)) (λ_ _ _ _ _=>aQk) aQi (λ_ _ _ _ _ _=>aQg rfl (PD.o (aQ3 d_most_beside z rfl (aQ0 (dv 1) (aQ0 (dv 0) aQ1))))))
  (aQ4 (aQ8 (aQ3 d_first_of_longest z rfl (aQ0 (dv 1) (aQ0 aX6 aQ1)))))),?_⟩
 ·rintro ds S Q ⟨ts,rfl,_⟩;rfl
 ·rintro ds S Q ⟨ts,rfl,O,hs,G,N,he,q⟩;refine⟨ts,rfl,G,N,λt j=>(he t j).2,λout os L=>?_⟩;have ol:=aH (os.nodup.length_le_of_subset λt j=>(L t).mp j) (cJ7 ts G);have Z:∀c∈out,∀r,MfS (hav ts c) (mtg (hav ts c) c) (-1) r->r=(lbs ts c).map (gT ts)/\lbs ts c≠[]/\∀i∈lbs ts c,i<ts.length:=λc J r z=>by
   obtain⟨h1,h2⟩:=bJh hs (λt j=>(he t j).1) ((L c).mp J);exact dJh hs (λt j=>(he t j).1) h1 z (h2 r z)
  refine⟨_,rfl,aQn (f:=λc=>rowD ts (lbs ts c)) (λc J Q q=>⟨ts,c,rfl,hs,G,he,aH (dJj (λt j=>(he t j).2) ((L c).mp J)) (by decide),λr z=>?_⟩) (aQd (by show 0+out.length<=_;lia)) ?_⟩
  ·rw[(Z c J r z).1];exact q
  rw[c9];have e:out.map (λc=>rowD ts (lbs ts c))=(out.map λc=>(lbs ts c).map (gT ts)).map λx=>D.tup (x.map tupS):=by rw[bi];rfl
  refine⟨_,_,_,rfl,O,rfl,by rw[e];exact gXi _,aQ7 ?_⟩
  have lt:=λc J=>by
   obtain⟨h1,h2⟩:=bJh hs (λt j=>(he t j).1) ((L c).mp J);exact gXf ts c
  have U:fXl .non (out.map λc=>rowD ts (lbs ts c))=grt ts out:=by
   cases out with
   |nil=>rfl
   |cons c cs =>
    show bZv (rowD ts (lbs ts c)) (cs.map λc=>rowD ts (lbs ts c))=rowD ts (bst (lbs ts c) (cs.map (lbs ts)));rw[<- aJw hs _ _ (lt c (by simp)) (λr z=>?_),bi]
    ·rfl
    ·obtain⟨d,hd,rfl⟩:=av.mp z;exact lt d (ak _ hd)
  rw[U];exact q out os L
end
abbrev s_flower_shown:Stmt:=top 9
theorem sc_flower_shown:FnScope ["sets", "many", "some"] ["sets", "many", "some"] (aQ5 s_flower_shown):=fsc
def aXi:SpD:=λds S Q=>∃(ts p:List (List Str)),ds=[.tup (ts.map tupS),.int (p.length:Nat),.tup (p.map tupS)]/\SrtT ts/\p.Sublist ts/\ts.length<=14/\(∀t∈ts,Srt t/\t.length<=6)/\(coG p).isSome=true/\Q (.bl true) S
section
variable{P:aA}{w:aO}{K:ar}{mg:Str->Option ad}{base:bd}{pt cc:Addr}
theorem bZn(T:Tx K mg "flower_shown" s_flower_shown)(B:Bs mg)(d_core_of:Df P w K mg base 2 "core_of" ["some"] (spU K aZg)):Df P w K mg base 3 "flower_shown" ["sets", "many", "some"] (spU K aXi):=by
 refine aZ1 T sc_flower_shown (λF=>F.binds λ_ _ _ _ _ _=>us3 λ_ _ _=>rfl) ?_ λf O A outer s H E j=>⟨_,(aQ2 (aQz (PWD.pt (dX0 (cJz j (aQs rfl B.len (aQ0 (dv 2) aQ1)) (dv 1)) (cQ7 (aXt (aJ7 (eZ0 rfl B.all (aQ0 (aQq (oc:=none) (b:=false) [0] [] rfl sc_flower_shown.nd (λ_ _ _=>aQc ..) (.own (.cap (i:=0) rfl (by decide +kernel) .nil)) (aQf rfl) (aQv (dv 2)) (cg_name) (λ_ _ _ _ _=>aQa (nd_ ["one", "sets"]) rfl (aS rfl) (.inr rfl)) (λ_ _ _ _ _=>aQk) aQi (λ_ _ _ _ _ _=>aQg rfl (PD.o (e_in j (dv 0) (dv 1))))) aQ1))))))) (aQ4 (aQ8 e_bl)) aQh)
  (aQ4 (aQ8 (gQz (e_eq j (cQ9 (b:=false) rfl B.list (aQ0 (dv 2) aQ1)) (aZ7 (b:=false) j rfl B.sorted (aQ0 (dv 2) aQ1))) (dZz (dZy j (aQ3 d_core_of j rfl (aQ0 (dv 2) aQ1)) aX6)))))),?_⟩
 ·rintro ds S Q ⟨ts,p,rfl,_⟩;rfl
 ·rintro ds S Q ⟨ts,p,rfl,hs,sub,hl,he,co,q⟩;have lp:=aH sub.length_le hl;have G:SrtT p:=hs.sublist sub;have z:∀t∈p,t∈ts:=λt d=>sub.subset d;refine⟨_,rfl,rfl,false,eZm (by rw[ae]),?_⟩
  refine⟨_,rfl,aQn (λt d Q q=>fX1 rfl q) (aQd (by show 0+p.length<=9999;lia)) ⟨p.map λt=>decide (t∈ts),?_,?_⟩⟩
  ·rw[bi];rfl
  have N:(p.map λt=>decide (t∈ts)).all id=true:=by
   rw[dr,ba];exact λt d=>decide_eq_true (z t d)
  refine ite2 (λc=>by
   have c':(!((p.map λt=>decide (t∈ts)).all id))=true:=c;rw[N] at c';cases c') λ_=>?_
  have es:=SrtT.ext (bJ8 G.nodup) G λn=>cZk;refine⟨_,rfl,.inr (.inr ⟨p,rfl,G.nodup,by lia,?_⟩)⟩
  rw[es];have ok:okE 9 (.lst (p.map tupS)) (.lst (p.map tupS))=true:=by
   have:=flE.ok 9 p p (by decide)
   exact this
  refine⟨ok,true,hQd rfl,?_⟩;have J:=λt d=>(he t (z t d)).2;refine⟨p,rfl,by lia,λt d=>by have:=J t d;lia,aH (bXd lp J) (by decide),?_⟩
  obtain⟨c,L⟩:=bn.mp co;rw[L];exact aQ7 q
end
end Toy
namespace L2
open PySem PySem.Spec PyProof.Rows
section
variable{X:Cx}{K:Fg}{pos:Pos}{a b:Expr}{rest:List Expr}{ta tb:TE}
def tOrT(K:Fg)(ta tb:TE):TE:=fun σ H Q=>ta σ H λx H1=>∃k,TruV K x H1 k/\if k=true then Q x H1 else tb σ H1 Q
theorem gXq(ha:PE X a ta)(hb:PE X (.BoolOp .Or (b::rest) pos) tb):PE X (.BoolOp .Or (a::b::rest) pos) (tOrT X.K ta tb):=by
 intro pins s σ H Q I h;refine BoolOp_or (thn (ha pins s σ H _ I h) λv s1 ⟨x,H1,G,j,d⟩=>?_);obtain⟨k,e,d⟩:=d;refine thn (eXa pins s1 σ H1 x v (λc H2=>c=k/\H2=H1) G j ⟨k,e,rfl,rfl⟩) λc s2 h2=>?_;obtain⟨H2,z,D,B⟩:=h2;subst D B;cases c with
 |true=>exact⟨x,_,z,j,d⟩
 |false=>exact hb pins s2 σ _ Q z d
end
section
variable{X:Cx}{K:Fg}{pos:Pos}{a b:Expr}{rest:List Expr}{ta tb:ED}
def dOrT(ta tb:ED):ED:=fun Γ S Q=>ta Γ S λd S1=>match d with
 |.non=>tb Γ S1 Q
 |.tup xs=>if xs=[] then tb Γ S1 Q else Q (.tup xs) S1
 |_=>False
theorem hQj(ha:PD K X a ta)(hb:PD K X (.BoolOp .Or (b::rest) pos) tb)(hK:X.K=K:=by rfl):PD K X (.BoolOp .Or (a::b::rest) pos) (dOrT ta tb):=by
 subst hK;exact .of (gXq ha.o hb.o) fun σ H Q N=>N.el λF S Γ QD r g q c =>
 ⟨F,S,Γ,_,r,g,q,λv d H1 S1 B G v1 j=>by
  cases d with
  |non=>rw[rnon v1];exact⟨false,rfl,⟨F,S1,Γ,QD,G,g.ext B,j,λv z L J D=>c v z L J (B.trans D)⟩⟩
  |tup xs =>
   obtain⟨p,us,e,t,l⟩:=tup.st v1;subst e;refine⟨!us.isEmpty,.inr (.inl ⟨us,t,rfl⟩),?_⟩;rw[cXg l];have j:=j
   cases xs with
   |nil=>exact⟨F,S1,Γ,QD,G,g.ext B,j,λv z L J D=>c v z L J (B.trans D)⟩
   |cons y ys=>exact c _ _ _ _ B G v1 j
  |_=>exact j.elim⟩
end
end L2
namespace SF
open PySem PyProof.Rows
structure Orc(prog:aA)(w:aO)(A:aW)(s:ai)(κ:gH)(P:cw->Prop)(lt:cw->cw->Bool):Prop where
 ask:∀x y (Q:Bool->ai->Prop),P x->P y->Q (lt x y) s->aD (aE prog w) A (keyLt' κ x.1 y.1) Q (λ_ _=>False) s
 as:∀x y,P x->P y->lt x y=true->lt y x=false
 tr:∀x y z,P x->P y->P z->lt y x=false->lt z y=false->lt z x=false
section
variable{prog:aA}{w:aO}{A:aW}{E:ad->ai->Prop}{s:ai}{κ:gH}{P:cw->Prop}{lt:cw->cw->Bool}
theorem hQk(o:Orc prog w A s κ P lt){st:gU}{x y:cw}{Q:Option Bool->gU->Prop}(hk:kindOf st=κ)(hx:P x)(hy:P y)(h:Q (some (lt x y)) st):wpS (aE prog w) A E s (lt' x y) Q st:=by
 rw[lt'_eq];refine bz (wpS_get ?_);rw[hk];refine bz (wpS_lift (wpAny_attempt (cO (o.ask x y (λb s'=>s'=s/\b=lt x y) hx hy ⟨rfl,rfl⟩) (λb s' d=>?_) λ_ _ j=>j.elim)));obtain⟨rfl,rfl⟩:=d;exact⟨rfl,bZ h⟩
theorem gXr{st:gU}(hx:arr[i]?=some x)(h:Q x st):wpS (aE prog w) A E s (elem' arr i) Q st:=by
 rw[elem'_eq,hx];exact bZ h
end
def Sd{α:Type}(lt:α->α->Bool)(l:List α):Prop:=l.Pairwise λx y=>lt y x=false
end SF
set_option maxHeartbeats 4000000
namespace SF
open PySem PyProof.Rows
def at0(xs:Array cw)(i:Nat):cw:=(xs[i]?).getD (.none,.none)
theorem dJs(h:xs[i]?=ys[j]?):at0 xs i=at0 ys j:=by unfold at0;rw[h]
def Gd(lo:Nat)(a xs:Array cw):Prop:=xs.Perm a/\∀i,i<lo->xs[i]?=a[i]?
theorem Gd.size{lo:Nat}(h:Gd lo a xs):xs.size=a.size:=h.1.size_eq
def Up(lt:cw->cw->Bool)(xs:Array cw)(i j:Nat):Prop:=∀p q,i<=p->p<q->q<j->lt (at0 xs q) (at0 xs p)=false
def Dn(lt:cw->cw->Bool)(xs:Array cw)(i j:Nat):Prop:=∀p q,i<=p->p<q->q<j->lt (at0 xs p) (at0 xs q)=false
def Eqs(lt:cw->cw->Bool)(xs:Array cw)(i j:Nat):Prop:=∀p q,i<=p->p<j->i<=q->q<j->lt (at0 xs p) (at0 xs q)=false
theorem rev_at(hj:j<=xs.size)(k:Nat):at0 (dQ xs i j ((j-i)/2)) k=if i<=k/\k<j then at0 xs (i+j-1-k) else at0 xs k:=by
 have e:=i8 (i:=i) hj k
 split at e
 ·next h=>rw[if_pos h];exact dJs e
 ·next h=>rw[if_neg h];exact dJs e
theorem Gd.rev{lo i j d:Nat}(h:Gd lo a xs)(hi:lo<=i)(hj:j<=xs.size)(hd:d=(j-i)/2):Gd lo a (dQ xs i j d):=by
 subst hd;refine⟨(mirror_perm _ _ _ _).trans h.1,λk z=>?_⟩;rw[i8 hj,if_neg (by lia)]
 exact h.2 k z
section
variable{prog:aA}{w:aO}{A:aW}{E:ad->ai->Prop}{s:ai}{κ:gH}{P:cw->Prop}{lt:cw->cw->Bool}
theorem gd_P{lo:Nat}(h:Gd lo a xs)(PA:∀x∈a.toList,P x){i:Nat}(hi:i<a.size):xs[i]?=some (at0 xs i)/\P (at0 xs i):=by
 have d:i<xs.size:=by rw[h.size];exact hi
 have e:xs[i]?=some xs[i]:=getElem?_pos _ i d;have j:at0 xs i=xs[i]:=by unfold at0;rw[e];rfl
 rw[j];exact⟨e,PA _ ((dO.mp h.1).mem_iff.mp (by simp))⟩
theorem aZm(o:Orc prog w A s κ P lt){st:gU}{xs:Array cw}{lo i j:Nat}{Q:Option Bool->gU->Prop}(hk:kindOf st=κ)(PA:∀x∈(bh st).toList,P x)(g:Gd lo (bh st) xs)(hi:i<(bh st).size)(hj:j<(bh st).size)(h:Q (some (lt (at0 xs i) (at0 xs j))) (dy st xs)) :
  wpS (aE prog w) A E s (ltAt' i j) Q (dy st xs):=by
 rw[ltAt'_eq];refine bz (wpS_get ?_);obtain⟨B,d⟩:=gd_P g PA hi;obtain⟨z,p2⟩:=gd_P g PA hj;exact bz (gXr B (bz (gXr z (hQk o hk d p2 h))))
theorem irr(o:Orc prog w A s κ P lt){x:cw}(hx:P x):lt x x=false:=by
 cases e:lt x x with
 |false=>rfl
 |true=>exact absurd (e.symm.trans (o.as x x hx hx e)) (by decide)
variable{st:gU}{xs:Array cw}{lo:Nat}
theorem Up.more(o:Orc prog w A s κ P lt){i j:Nat}(hP:∀p,p<=j->P (at0 xs p))(h:Up lt xs i j)(hij:i<j)(e:lt (at0 xs j) (at0 xs (j-1))=false):Up lt xs i (j+1):=λp q h1 h2 d=>by
 rcases bU q j with z|z
 ·exact h p q h1 h2 z
 ·have:q=j:=by lia
  subst this;rcases bU p (q-1) with y|y
  ·exact o.tr _ _ _ (hP p (by lia)) (hP (q-1) (by lia)) (hP q (by lia)) (h p (q-1) h1 y (by lia)) e
  ·have:p=q-1:=by lia
   rw[this];exact e
theorem Dn.more(o:Orc prog w A s κ P lt){i j:Nat}(hP:∀p,p<=j->P (at0 xs p))(h:Dn lt xs i j)(hij:i<j)(e:lt (at0 xs (j-1)) (at0 xs j)=false):Dn lt xs i (j+1):=λp q h1 h2 d=>by
 rcases bU q j with z|z
 ·exact h p q h1 h2 z
 ·have:q=j:=by lia
  subst this;rcases bU p (q-1) with y|y
  ·exact o.tr _ _ _ (hP q (by lia)) (hP (q-1) (by lia)) (hP p (by lia)) e (h p (q-1) h1 y (by lia))
  ·have:p=q-1:=by lia
   rw[this];exact e
theorem Dn.rev(h:Dn lt xs i j)(hj:j<=xs.size)(hd:d=(j-i)/2):Up lt (dQ xs i j d) i j:=λp q h1 h2 z=>by
 subst hd;rw[rev_at hj,rev_at hj,if_pos ⟨by lia,by lia⟩,if_pos ⟨by lia,by lia⟩]
 exact h _ _ (by lia) (by lia) (by lia)
theorem Dn.eqs(h:Dn lt xs i j)(hc:i<=c)(he:Eqs lt xs c j)(hj:j<=xs.size)(hd:d=(j-c)/2):Dn lt (dQ xs c j d) i j:=λp q h1 h2 z=>by
 subst hd;rw[rev_at hj,rev_at hj]
 by_cases a1:c<=p/\p<j
 ·rw[if_pos a1,if_pos ⟨by lia,by lia⟩]
  exact he _ _ (by lia) (by lia) (by lia) (by lia)
 ·rw[if_neg a1]
  by_cases a2:c<=q/\q<j
  ·rw[if_pos a2];exact h _ _ h1 (by lia) (by lia)
  ·rw[if_neg a2];exact h _ _ h1 h2 z
theorem gXs(o:Orc prog w A s κ P lt){nrem:Nat}{Q:Option Nat->gU->Prop}(hk:kindOf st=κ)(PA:∀x∈(bh st).toList,P x)(hn:1<=nrem)(hs:lo+nrem<=(bh st).size)
  (h:∀n xs,1<=n->n<=nrem->Gd lo (bh st) xs->Up lt xs lo (lo+n)->Q (some n) (dy st xs)):wpS (aE prog w) A E s (countRun' lo nrem) Q st:=by
 have B:∀ {xs},Gd lo (bh st) xs->∀ p,p < (bh st).size->P (at0 xs p):=λg p D=>(gd_P g PA D).2;rw[countRun'_eq];dsimp only;have est:st=dy st (bh st):=rfl;have Z:Gd lo (bh st) (bh st):=⟨kK _,λ_ _=>rfl⟩;refine bz (gK (d3 (I:=λx c d=>d=dy st (bh st)/\c=(none,x)/\1<=x/\Up lt (bh st) lo (lo + x))
  (Q:=λc d=>d=dy st (bh st)/\∃n,c=(none,n)/\1<=n/\n<=nrem/\Up lt (bh st) lo (lo+n)/\(n<nrem->lt (at0 (bh st) (lo+n)) (at0 (bh st) (lo+n-1))=true)) ?_ ?_ ⟨est,rfl,am _,λp q _ _ _=>by lia⟩) ?_)
 ·rintro x c d _ hx ⟨rfl,rfl,h1,hu⟩;dsimp only;refine bz (aZm o (i:=lo+x) (j:=lo+x-1) hk PA Z (by lia) (by lia) ?_)
  dsimp only;cases e:lt (at0 (bh st) (lo+x)) (at0 (bh st) (lo+x-1)) with
  |true=>rw[if_pos rfl];exact bZ ⟨rfl,x,rfl,h1,by lia,hu,λ_=>e⟩
  |false=>rw[if_neg (by simp)];exact bZ ⟨rfl,rfl,by lia,Up.more o (i:=lo) (j:=lo+x) (λp D=>B Z p (by lia)) hu (by lia) e⟩
 ·rintro c d ⟨rfl,rfl,h1,hu⟩;refine⟨rfl,_,rfl,by lia,by lia,hu,λz=>by lia⟩
 ·rintro c d ⟨rfl,n,rfl,J,G,hu,hlt⟩;dsimp only
  by_cases c0:(n==nrem)=true
  ·rw[if_pos c0];exact bZ (h n _ J G Z hu)
  rw[if_neg c0];have c0':n<nrem:=by
   have:n≠nrem:=by simpa using c0
   lia
  have hlt':=hlt c0';have pp:∀p,p<=lo+n->P (at0 (bh st) p):=λp D=>B Z p (by lia)
  have hle:=o.as _ _ (pp _ (am _)) (pp _ (by lia)) hlt'
  by_cases cn:n>1
  ·rw[if_pos cn];refine bz (aZm o (i:=lo) (j:=lo+n-1) hk PA Z (by lia) (by lia) ?_)
   dsimp only;cases e:lt (at0 (bh st) lo) (at0 (bh st) (lo+n-1)) with
   |true=>rw[if_pos rfl];exact bZ (h n _ J G Z hu)
   |false =>
    rw[if_neg (by simp),dG]
    have down:∀p,lo<=p->p<lo+n->lt (at0 (bh st) p) (at0 (bh st) (lo+n-1))=false:=λp h1 h2=>by
     rcases eM h1 with rfl|h1
     ·exact e
     ·exact o.tr _ _ _ (pp _ (by lia)) (pp _ (by lia)) (pp _ (by lia)) e (hu lo p (am _) h1 h2)
    have dn:Dn lt (bh st) lo (lo+n):=λp q h1 h2 U=>by
     rcases eM (show q<=lo+n-1 by lia) with z|z
     ·rw[z];exact down p h1 (by lia)
     ·exact o.tr _ _ _ (pp _ (by lia)) (pp _ (by lia)) (pp _ (by lia)) (hu q (lo+n-1) (by lia) z (by lia)) (down p h1 (by lia))
    have eqs:Eqs lt (bh st) lo (lo+n):=λp q h1 h2 U h4=>by
     rcases eg p q with z|z|z
     ·exact dn p q h1 z h4
     ·subst z;exact irr o (pp _ (by lia))
     ·exact hu q p U z h2
    have g2:Gd lo (bh st) (dQ (bh st) lo (lo+n) ((lo+n-lo)/2)):=Z.rev (am _) (by lia) rfl
    have hd:Dn lt (dQ (bh st) lo (lo+n) ((lo+n-lo)/2)) lo (lo+(n+1)):=by
     refine Dn.more o (i:=lo) (j:=lo+n) (λp D=>B g2 p (by lia)) (dn.eqs (am _) eqs (by lia) rfl) (by lia) ?_
     have Y:=rev_at (xs:=bh st) (i:=lo) (j:=lo+n) (by lia)
     rw[Y,Y,if_pos ⟨by lia,by lia⟩,if_neg (by lia)]
     exact o.tr _ _ _ (pp _ (by lia)) (pp (lo+n-1) (by lia)) (pp _ (by lia)) hle (down _ (by lia) (by lia))
    have G:=c0';refine bz (ft ?_);change wpS _ _ _ _ _ _ (dy st (dQ (bh st) lo (lo+n) ((lo+n-lo)/2)))
    rename Gd lo (bh st) (dQ (bh st) lo (lo+n) ((lo+n-lo)/2))=>g
    generalize dQ (bh st) lo (lo + n) ((lo + n - lo) / 2)=xs at g hd ⊢;refine bz (wpS_lift (en ⟨rfl,?_⟩));refine bz (gK (d3 (I:=λx c d=>∃ xs q,d=dy st xs/\c=(none,x,q)/\2<=x/\q + 1<=x/\Gd lo (bh st) xs/\Dn lt xs lo (lo + x)/\Eqs lt xs (lo + x - (q + 1)) (lo + x))
     (Q:=λc d=>∃ xs n q,d=dy st xs/\c=(none,n,q)/\1<=n/\n<=nrem/\q + 1<=n/\Gd lo (bh st) xs/\Dn lt xs lo (lo + n)/\Eqs lt xs (lo + n - (q + 1)) (lo + n)) ?_ ?_ ⟨xs,0,rfl,rfl,by lia,by lia,g,hd,λp q h1 h2 U h4=>by
      have:p=q:=by lia
      subst this;exact irr o (B g p (by lia))⟩) ?_)
    ·rintro x c d _ hx ⟨xs,q,rfl,rfl,x2,O,g,hd,he⟩;have hxs:xs.size=(bh st).size:=g.size;dsimp only;refine bz (aZm o (i:=lo+x) (j:=lo+x-1) hk PA g (by lia) (by lia) ?_)
     dsimp only;cases e:lt (at0 xs (lo+x)) (at0 xs (lo+x-1)) with
     |true =>
      rw[if_pos rfl];have e2:=o.as _ _ (B g _ (by lia)) (B g _ (by lia)) e
      have one:∀ys,Gd lo (bh st) ys->Eqs lt ys (lo+(x+1)-(0+1)) (lo+(x+1)):=λys g' p q h1 h2 U h4=>by
       have:p=q:=by lia
       subst this;exact irr o (B g' p (by lia))
      by_cases N:q>0
      ·rw[if_pos N,dG];have hd2:(lo+x-(lo+x-(q+1)))/2=(lo+x-(lo+x-(q+1)))/2:=rfl;have g2:Gd lo (bh st) (dQ xs (lo+x-(q+1)) (lo+x) ((lo+x-(lo+x-(q+1)))/2)):=g.rev (by lia) (by lia) rfl
       have d2:Dn lt (dQ xs (lo+x-(q+1)) (lo+x) ((lo+x-(lo+x-(q+1)))/2)) lo (lo+x):=hd.eqs (by lia) he (by lia) rfl
       refine bz (ft (bZ ⟨_,0,rfl,rfl,by lia,by lia,g2,Dn.more o (i:=lo) (j:=lo+x) (λp D=>B g2 p (by lia)) d2 (by lia) ?_,one _ g2⟩))
       have Y:=rev_at (xs:=xs) (i:=lo+x-(q+1)) (j:=lo+x) (by lia)
       rw[Y,Y,if_pos ⟨by lia,by lia⟩,if_neg (by lia)]
       exact o.tr (at0 xs (lo+x)) (at0 xs (lo+x-1)) _ (B g _ (by lia)) (B g _ (by lia)) (B g _ (by lia)) e2 (he _ _ (by lia) (by lia) (by lia) (by lia))
      ·rw[if_neg N];exact bZ ⟨xs,0,rfl,rfl,by lia,by lia,g,Dn.more o (i:=lo) (j:=lo+x) (λp D=>B g p (by lia)) hd (by lia) e2,one _ g⟩
     |false =>
      rw[if_neg (by simp)]
      refine bz (aZm o (i:=lo+x-1) (j:=lo+x) hk PA g (by lia) (by lia) ?_)
      dsimp only;cases e2:lt (at0 xs (lo+x-1)) (at0 xs (lo+x)) with
      |true=>rw[if_pos rfl];exact bZ ⟨xs,x,q,rfl,rfl,by lia,by lia,O,g,hd,he⟩
      |false =>
       rw[if_neg (by simp)]
       refine bZ ⟨xs,q+1,rfl,rfl,by lia,by lia,g,Dn.more o (i:=lo) (j:=lo+x) (λp D=>B g p (by lia)) hd (by lia) e2,λp r h1 h2 U h4=>?_⟩
       have pp:∀p,p<=lo+x->P (at0 xs p):=λp D=>B g p (by lia)
       have low:∀p,lo+x-(q+1)<=p->p<lo+x->lt (at0 xs p) (at0 xs (lo+x))=false/\lt (at0 xs (lo+x)) (at0 xs p)=false:=λp a1 a2=>by
        have b1:=he p (lo+x-1) a1 a2 (by lia) (by lia)
        have b2:=he (lo+x-1) p (by lia) (by lia) a1 a2
        exact⟨o.tr _ _ _ (pp _ (by lia)) (pp _ (by lia)) (pp _ (by lia)) e2 b1,o.tr _ _ _ (pp _ (by lia)) (pp _ (by lia)) (pp _ (by lia)) b2 e⟩
       by_cases z1:p=lo+x
       ·by_cases z2:r=lo+x
        ·rw[z1,z2];exact irr o (pp _ (by lia))
        ·rw[z1];exact(low r (by lia) (by lia)).2
       ·by_cases z2:r=lo+x
        ·rw[z2];exact(low p (by lia) (by lia)).1
        ·exact he p r (by lia) (by lia) (by lia) (by lia)
    ·rintro c d ⟨xs,q,rfl,rfl,x2,O,g,hd,he⟩;exact⟨xs,_,q,rfl,rfl,by lia,by lia,O,g,by rwa [show max (n+1) nrem=nrem by lia] at hd ⊢,he⟩
    ·rintro c d ⟨xs,n,q,rfl,rfl,J,G,O,g,hd,he⟩;have hxs:xs.size=(bh st).size:=g.size;dsimp only
     by_cases N:q>0
     ·rw[if_pos N,dG,dG];have g2:Gd lo (bh st) (dQ xs (lo+n-(q+1)) (lo+n) ((lo+n-(lo+n-(q+1)))/2)):=g.rev (by lia) (by lia) rfl
      have d2:Dn lt (dQ xs (lo+n-(q+1)) (lo+n) ((lo+n-(lo+n-(q+1)))/2)) lo (lo+n):=hd.eqs (by lia) he (by lia) rfl
      have s2:=g2.size;have g3:=g2.rev (i:=lo) (j:=lo+n) (am _) (by lia) rfl
      have L:=d2.rev (i:=lo) (j:=lo+n) (by lia) rfl
      refine bz (ft (bz (ft ?_)));change wpS _ _ _ _ _ _ (dy st (dQ (dQ xs (lo + n - (q + 1)) (lo + n) ((lo + n - (lo + n - (q + 1))) / 2)) lo (lo + n) ((lo + n - lo) / 2)));generalize dQ (dQ xs (lo + n - (q + 1)) (lo + n) ((lo + n - (lo + n - (q + 1))) / 2)) lo (lo + n) ((lo + n - lo) / 2)=zs at g3 L ⊢;refine bz (gK (d3 (I:=λx c d=>d=dy st zs/\c=(none,x)/\n<=x/\Up lt (zs) lo (lo + x))
       (Q:=λc d=>d=dy st zs/\∃n,c=(none,n)/\1<=n/\n<=nrem/\Up lt (zs) lo (lo+n)) ?_ ?_ ⟨rfl,rfl,am _,L⟩) ?_)
      ·rintro x c d _ hx ⟨rfl,rfl,h1,hu⟩;dsimp only;refine bz (aZm o (i:=lo+x) (j:=lo+x-1) hk PA g3 (by lia) (by lia) ?_)
       dsimp only;cases e:lt (at0 (zs) (lo+x)) (at0 (zs) (lo+x-1)) with
       |true=>rw[if_pos rfl];exact bZ ⟨rfl,x,rfl,by lia,by lia,hu⟩
       |false=>rw[if_neg (by simp)];exact bZ ⟨rfl,rfl,by lia,Up.more o (i:=lo) (j:=lo+x) (λp D=>B g3 p (by lia)) hu (by lia) e⟩
      ·rintro c d ⟨rfl,rfl,h1,hu⟩;exact⟨rfl,_,rfl,by lia,by lia,hu⟩
      ·rintro c d ⟨rfl,n,rfl,J,G,hu⟩;exact bZ (h n (zs) J G g3 hu)
     ·rw[if_neg N,dG];have g3:=g.rev (i:=lo) (j:=lo+n) (am _) (by lia) rfl
      have L:=hd.rev (i:=lo) (j:=lo+n) (by lia) rfl
      refine bz (ft ?_);change wpS _ _ _ _ _ _ (dy st (dQ xs lo (lo + n) ((lo + n - lo) / 2)));generalize dQ xs lo (lo + n) ((lo + n - lo) / 2)=zs at g3 L ⊢;refine bz (gK (d3 (I:=λx c d=>d=dy st zs/\c=(none,x)/\n<=x/\Up lt (zs) lo (lo + x))
       (Q:=λc d=>d=dy st zs/\∃n,c=(none,n)/\1<=n/\n<=nrem/\Up lt (zs) lo (lo+n)) ?_ ?_ ⟨rfl,rfl,am _,L⟩) ?_)
      ·rintro x c d _ hx ⟨rfl,rfl,h1,hu⟩;dsimp only;refine bz (aZm o (i:=lo+x) (j:=lo+x-1) hk PA g3 (by lia) (by lia) ?_)
       dsimp only;cases e:lt (at0 (zs) (lo+x)) (at0 (zs) (lo+x-1)) with
       |true=>rw[if_pos rfl];exact bZ ⟨rfl,x,rfl,by lia,by lia,hu⟩
       |false=>rw[if_neg (by simp)];exact bZ ⟨rfl,rfl,by lia,Up.more o (i:=lo) (j:=lo+x) (λp D=>B g3 p (by lia)) hu (by lia) e⟩
      ·rintro c d ⟨rfl,rfl,h1,hu⟩;exact⟨rfl,_,rfl,by lia,by lia,hu⟩
      ·rintro c d ⟨rfl,n,rfl,J,G,hu⟩;exact bZ (h n (zs) J G g3 hu)
  ·rw[if_neg cn];have e1:n=1:=by lia
   subst e1;have hd:Dn lt (bh st) lo (lo+(1+1)):=λp q h1 h2 U=>by
    have ep:p=lo:=by lia
    have eq:q=lo+1:=by lia
    rw[ep,eq];exact hle
   have G:=c0';have g:=Z;refine bz (wpS_lift (en ⟨rfl,?_⟩));refine bz (gK (d3 (I:=λx c d=>∃ xs q,d=dy st xs/\c=(none,x,q)/\2<=x/\q + 1<=x/\Gd lo (bh st) xs/\Dn lt xs lo (lo + x)/\Eqs lt xs (lo + x - (q + 1)) (lo + x))
    (Q:=λc d=>∃ xs n q,d=dy st xs/\c=(none,n,q)/\1<=n/\n<=nrem/\q + 1<=n/\Gd lo (bh st) xs/\Dn lt xs lo (lo + n)/\Eqs lt xs (lo + n - (q + 1)) (lo + n)) ?_ ?_ ⟨bh st,0,rfl,rfl,by lia,by lia,g,hd,λp q h1 h2 U h4=>by
     have:p=q:=by lia
     subst this;exact irr o (B g p (by lia))⟩) ?_)
   ·rintro x c d _ hx ⟨xs,q,rfl,rfl,x2,O,g,hd,he⟩;have hxs:xs.size=(bh st).size:=g.size;dsimp only;refine bz (aZm o (i:=lo+x) (j:=lo+x-1) hk PA g (by lia) (by lia) ?_)
    dsimp only;cases e:lt (at0 xs (lo+x)) (at0 xs (lo+x-1)) with
    |true =>
     rw[if_pos rfl];have e2:=o.as _ _ (B g _ (by lia)) (B g _ (by lia)) e
     have one:∀ys,Gd lo (bh st) ys->Eqs lt ys (lo+(x+1)-(0+1)) (lo+(x+1)):=λys g' p q h1 h2 U h4=>by
      have:p=q:=by lia
      subst this;exact irr o (B g' p (by lia))
     by_cases N:q>0
     ·rw[if_pos N,dG];have hd2:(lo+x-(lo+x-(q+1)))/2=(lo+x-(lo+x-(q+1)))/2:=rfl;have g2:Gd lo (bh st) (dQ xs (lo+x-(q+1)) (lo+x) ((lo+x-(lo+x-(q+1)))/2)):=g.rev (by lia) (by lia) rfl
      have d2:Dn lt (dQ xs (lo+x-(q+1)) (lo+x) ((lo+x-(lo+x-(q+1)))/2)) lo (lo+x):=hd.eqs (by lia) he (by lia) rfl
      refine bz (ft (bZ ⟨_,0,rfl,rfl,by lia,by lia,g2,Dn.more o (i:=lo) (j:=lo+x) (λp D=>B g2 p (by lia)) d2 (by lia) ?_,one _ g2⟩))
      have Y:=rev_at (xs:=xs) (i:=lo+x-(q+1)) (j:=lo+x) (by lia)
      rw[Y,Y,if_pos ⟨by lia,by lia⟩,if_neg (by lia)]
      exact o.tr (at0 xs (lo+x)) (at0 xs (lo+x-1)) _ (B g _ (by lia)) (B g _ (by lia)) (B g _ (by lia)) e2 (he _ _ (by lia) (by lia) (by lia) (by lia))
     ·rw[if_neg N];exact bZ ⟨xs,0,rfl,rfl,by lia,by lia,g,Dn.more o (i:=lo) (j:=lo+x) (λp D=>B g p (by lia)) hd (by lia) e2,one _ g⟩
    |false =>
     rw[if_neg (by simp)]
     refine bz (aZm o (i:=lo+x-1) (j:=lo+x) hk PA g (by lia) (by lia) ?_)
     dsimp only;cases e2:lt (at0 xs (lo+x-1)) (at0 xs (lo+x)) with
     |true=>rw[if_pos rfl];exact bZ ⟨xs,x,q,rfl,rfl,by lia,by lia,O,g,hd,he⟩
     |false =>
      rw[if_neg (by simp)]
      refine bZ ⟨xs,q+1,rfl,rfl,by lia,by lia,g,Dn.more o (i:=lo) (j:=lo+x) (λp D=>B g p (by lia)) hd (by lia) e2,λp r h1 h2 U h4=>?_⟩
      have pp:∀p,p<=lo+x->P (at0 xs p):=λp D=>B g p (by lia)
      have low:∀p,lo+x-(q+1)<=p->p<lo+x->lt (at0 xs p) (at0 xs (lo+x))=false/\lt (at0 xs (lo+x)) (at0 xs p)=false:=λp a1 a2=>by
       have b1:=he p (lo+x-1) a1 a2 (by lia) (by lia)
       have b2:=he (lo+x-1) p (by lia) (by lia) a1 a2
       exact⟨o.tr _ _ _ (pp _ (by lia)) (pp _ (by lia)) (pp _ (by lia)) e2 b1,o.tr _ _ _ (pp _ (by lia)) (pp _ (by lia)) (pp _ (by lia)) b2 e⟩
      by_cases z1:p=lo+x
      ·by_cases z2:r=lo+x
       ·rw[z1,z2];exact irr o (pp _ (by lia))
       ·rw[z1];exact(low r (by lia) (by lia)).2
      ·by_cases z2:r=lo+x
       ·rw[z2];exact(low p (by lia) (by lia)).1
       ·exact he p r (by lia) (by lia) (by lia) (by lia)
   ·rintro c d ⟨xs,q,rfl,rfl,x2,O,g,hd,he⟩;exact⟨xs,_,q,rfl,rfl,by lia,by lia,O,g,by rwa [show max (1+1) nrem=nrem by lia] at hd ⊢,he⟩
   ·rintro c d ⟨xs,n,q,rfl,rfl,J,G,O,g,hd,he⟩;have hxs:xs.size=(bh st).size:=g.size;dsimp only
    by_cases N:q>0
    ·rw[if_pos N,dG,dG];have g2:Gd lo (bh st) (dQ xs (lo+n-(q+1)) (lo+n) ((lo+n-(lo+n-(q+1)))/2)):=g.rev (by lia) (by lia) rfl
     have d2:Dn lt (dQ xs (lo+n-(q+1)) (lo+n) ((lo+n-(lo+n-(q+1)))/2)) lo (lo+n):=hd.eqs (by lia) he (by lia) rfl
     have s2:=g2.size;have g3:=g2.rev (i:=lo) (j:=lo+n) (am _) (by lia) rfl
     have L:=d2.rev (i:=lo) (j:=lo+n) (by lia) rfl
     refine bz (ft (bz (ft ?_)));change wpS _ _ _ _ _ _ (dy st (dQ (dQ xs (lo + n - (q + 1)) (lo + n) ((lo + n - (lo + n - (q + 1))) / 2)) lo (lo + n) ((lo + n - lo) / 2)));generalize dQ (dQ xs (lo + n - (q + 1)) (lo + n) ((lo + n - (lo + n - (q + 1))) / 2)) lo (lo + n) ((lo + n - lo) / 2)=zs at g3 L ⊢;refine bz (gK (d3 (I:=λx c d=>d=dy st zs/\c=(none,x)/\n<=x/\Up lt (zs) lo (lo + x))
      (Q:=λc d=>d=dy st zs/\∃n,c=(none,n)/\1<=n/\n<=nrem/\Up lt (zs) lo (lo+n)) ?_ ?_ ⟨rfl,rfl,am _,L⟩) ?_)
     ·rintro x c d _ hx ⟨rfl,rfl,h1,hu⟩;dsimp only;refine bz (aZm o (i:=lo+x) (j:=lo+x-1) hk PA g3 (by lia) (by lia) ?_)
      dsimp only;cases e:lt (at0 (zs) (lo+x)) (at0 (zs) (lo+x-1)) with
      |true=>rw[if_pos rfl];exact bZ ⟨rfl,x,rfl,by lia,by lia,hu⟩
      |false=>rw[if_neg (by simp)];exact bZ ⟨rfl,rfl,by lia,Up.more o (i:=lo) (j:=lo+x) (λp D=>B g3 p (by lia)) hu (by lia) e⟩
     ·rintro c d ⟨rfl,rfl,h1,hu⟩;exact⟨rfl,_,rfl,by lia,by lia,hu⟩
     ·rintro c d ⟨rfl,n,rfl,J,G,hu⟩;exact bZ (h n (zs) J G g3 hu)
    ·rw[if_neg N,dG];have g3:=g.rev (i:=lo) (j:=lo+n) (am _) (by lia) rfl
     have L:=hd.rev (i:=lo) (j:=lo+n) (by lia) rfl
     refine bz (ft ?_);generalize dQ xs lo (lo + n) ((lo + n - lo) / 2)=zs at g3 L ⊢;refine bz (gK (d3 (I:=λx c d=>d=dy st zs/\c=(none,x)/\n<=x/\Up lt (zs) lo (lo + x))
      (Q:=λc d=>d=dy st zs/\∃n,c=(none,n)/\1<=n/\n<=nrem/\Up lt (zs) lo (lo+n)) ?_ ?_ ⟨rfl,rfl,am _,L⟩) ?_)
     ·rintro x c d _ hx ⟨rfl,rfl,h1,hu⟩;refine bz (aZm o hk PA g3 (by lia) (by lia) ?_)
      dsimp only;cases e:lt (at0 (zs) (lo+x)) (at0 (zs) (lo+x-1)) with
      |true=>rw[if_pos rfl];exact bZ ⟨rfl,x,rfl,by lia,by lia,hu⟩
      |false=>rw[if_neg (by simp)];exact bZ ⟨rfl,rfl,by lia,Up.more o (λp D=>B g3 p (by lia)) hu (by lia) e⟩
     ·rintro c d ⟨rfl,rfl,h1,hu⟩;exact⟨rfl,_,rfl,by lia,by lia,hu⟩
     ·rintro c d ⟨rfl,n,rfl,J,G,hu⟩;exact bZ (h n (zs) J G g3 hu)
end
theorem bub_at(hs:src<xs.size)(hd:d<=src)(k:Nat) :
  at0 (bubble xs src d) k=if k=src-d then at0 xs src else if src-d<k/\k<=src then at0 xs (k-1) else at0 xs k:=by
 have e:=getElem?_bubble hs d hd k
 by_cases h1:k=src-d
 ·rw[if_pos h1] at e ⊢;exact dJs e
 ·rw[if_neg h1] at e ⊢
  by_cases h2:src-d<k/\k<=src
  ·rw[if_pos h2] at e ⊢;exact dJs e
  ·rw[if_neg h2] at e ⊢;exact dJs e
section
variable{prog:aA}{w:aO}{A:aW}{E:ad->ai->Prop}{s:ai}{κ:gH}{P:cw->Prop}{lt:cw->cw->Bool}{st:gU}{lo:Nat}
theorem gXt(o:Orc prog w A s κ P lt){n ok:Nat}{Q:Bool->gU->Prop}(hk:kindOf st=κ)(PA:∀x∈(bh st).toList,P x)(hs:lo+n<=(bh st).size)(hok:ok<=n)(hu:Up lt (bh st) lo (lo+ok))
  (h:∀xs,Gd lo (bh st) xs->Up lt xs lo (lo+n)->Q true (dy st xs)):wpS (aE prog w) A E s (binarySort' lo n ok) Q st:=by
 have pP:∀ {xs},Gd lo (bh st) xs->∀ p,p < (bh st).size->P (at0 xs p):=λg p Z=>(gd_P g PA Z).2;have g0:Gd lo (bh st) (bh st):=⟨kK _,λ_ _=>rfl⟩;rw[binarySort'_eq];refine bz (gK (d3 (I:=λk c B=>∃ xs,B=dy st xs/\c=(none,())/\Gd lo (bh st) xs/\Up lt xs lo (lo + min k n))
  (Q:=λc B=>∃xs,B=dy st xs/\c=(none,())/\Gd lo (bh st) xs/\Up lt xs lo (lo+n)) ?step ?fin ?init) ?post)
 case post =>
  rintro c B ⟨xs,rfl,rfl,g,hu⟩;exact bZ (h xs g hu)
 case init =>
  refine⟨bh st,rfl,rfl,g0,λp q h1 h2 h3=>?_⟩
  by_cases z:ok=0
  ·lia
  ·exact hu p q h1 h2 (by lia)
 case fin =>
  rintro c B ⟨xs,rfl,rfl,g,hu⟩;refine⟨xs,rfl,rfl,g,?_⟩;rwa [show min (max (max ok 1) n) n=n by lia] at hu
 case step =>
  rintro k c B hak hkn ⟨xs,rfl,rfl,g,hu⟩;rw[show min k n=k by lia] at hu
  have hxs:=g.size;have pp:∀p,p<lo+n->P (at0 xs p):=λp Z=>pP g p (by lia)
  dsimp only;refine bz (gK (d3 (I:=λx c d=>d=dy st xs/\∃ l r,c=(none,l,r)/\l<=r/\r<=k/\r - l<=k - x /\
    (∀i,i<l->lt (at0 xs (lo+k)) (at0 xs (lo+i))=false)/\(∀i,r<=i->i<k->lt (at0 xs (lo+i)) (at0 xs (lo+k))=false))
   (Q:=λc d=>d=dy st xs/\∃ l r,c=(none,l,r)/\l<=k /\
    (∀i,i<l->lt (at0 xs (lo+k)) (at0 xs (lo+i))=false)/\(∀i,l<=i->i<k->lt (at0 xs (lo+i)) (at0 xs (lo+k))=false)) ?istep ?ifin ?iinit) ?ipost)
  case iinit=>exact⟨rfl,0,k,rfl,by lia,by lia,by lia,λi hi=>by lia,λi h1 h2=>by lia⟩
  case ifin =>
   rintro c d ⟨rfl,l,r,rfl,Y,J,hm,D,G⟩
   have:l=r:=by lia
   subst this;exact⟨rfl,l,l,rfl,J,D,G⟩
  case istep =>
   rintro x c d _ hxk ⟨rfl,l,r,rfl,Y,J,hm,D,G⟩;by_cases U:l>=r
   ·rw[if_pos U]
    have:l=r:=by lia
    subst this;exact bZ ⟨rfl,l,l,rfl,J,D,G⟩
   ·rw[if_neg U];refine bz (aZm o hk PA g (by lia) (by lia) ?_)
    dsimp only;cases e:lt (at0 xs (lo+k)) (at0 xs (lo+(l+r)/2)) with
    |true =>
     rw[if_pos rfl];refine bZ ⟨rfl,l,(l+r)/2,rfl,by lia,by lia,by lia,D,λi h1 h2=>?_⟩
     have e2:=o.as _ _ (pp _ (by lia)) (pp _ (by lia)) e
     rcases eM h1 with z|z
     ·rw[<- z];exact e2
     ·exact o.tr _ _ _ (pp _ (by lia)) (pp (lo+(l+r)/2) (by lia)) (pp _ (by lia)) e2 (hu _ _ (by lia) (by lia) (by lia))
    |false =>
     rw[if_neg (by simp)]
     refine bZ ⟨rfl,(l+r)/2+1,r,rfl,by lia,by lia,by lia,λi h1=>?_,G⟩
     rcases eM (show i<=(l+r)/2 by lia) with z|z
     ·rw[z];exact e
     ·exact o.tr _ _ _ (pp _ (by lia)) (pp (lo+(l+r)/2) (by lia)) (pp _ (by lia)) (hu _ _ (by lia) (by lia) (by lia)) e
  case ipost =>
   rintro c d ⟨rfl,l,r,rfl,hlk,D,G⟩;rw[moveDown'_eq];have L:lo+k<xs.size:=by lia
   have ed:lo+k-(lo+l)=k-l:=by lia
   refine bz (ft (bZ ⟨bubble xs (lo+k) (lo+k-(lo+l)),rfl,rfl,⟨(bubble_perm _ _ _).trans g.1,λi hi=>?_⟩,?_⟩))
   ·rw[getElem?_bubble L _ (by lia),if_neg (by lia),if_neg (by lia)]
    exact g.2 i hi
   ·rw[show min (k+1) n=k+1 by lia]
    intro p q h1 h2 h3;rw[bub_at L (by lia),bub_at L (by lia),show lo+k-(lo+k-(lo+l))=lo+l by lia]
    have N:∀i,lo<=i->i<lo+l->lt (at0 xs (lo+k)) (at0 xs i)=false:=λi a b=>by
     have:=D (i-lo) (by lia)
     rwa [show lo+(i-lo)=i by lia] at this
    have O:∀i,lo+l<=i->i<lo+k->lt (at0 xs i) (at0 xs (lo+k))=false:=λi a b=>by
     have:=G (i-lo) (by lia) (by lia)
     rwa [show lo+(i-lo)=i by lia] at this
    repeat' split
    all_goals first
     |(exfalso;lia)
     |exact N _ (by lia) (by lia)
     |exact O _ (by lia) (by lia)
     |exact hu _ _ (by lia) (by lia) (by lia)
end
def offs:Nat->List (List cw)->List (Nat×Nat)
 |_,[]=>[]
 |k,s::ss=>(k,s.length)::offs (k+s.length) ss
theorem cJf:∀k ss,(offs k ss).length=ss.length
 |_,[]=>rfl
 |k,s::ss=>by simp[offs,cJf]
theorem cJg:∀k (s1 s2:List (List cw)),offs k (s1++s2)=offs k s1++offs (k+s1.flatten.length) s2
 |k,[],s2=>by simp[offs]
 |k,s::s1,s2=>by simp[offs,cJg,Nat.add_assoc]
def sl(x:Nat×Nat×Nat):Nat×Nat:=(x.1,x.2.1)
structure Pn(κ:gH)(P:cw->Prop)(lt:cw->cw->Bool)(a0:List cw)(st:gU)(segs:List (List cw))(rest:List cw):Prop where
 kind:kindOf st=κ
 fl:failedOf st=none
 arr:(bh st).toList=segs.flatten++rest
 perm:(bh st).toList.Perm a0
 sd:∀sg∈segs,Sd lt sg/\sg≠[]
 pd:(j9 st).toList.map sl=offs 0 segs
section
variable{prog:aA}{w:aO}{A:aW}{E:ad->ai->Prop}{s:ai}{κ:gH}{P:cw->Prop}{lt:cw->cw->Bool}{st:gU}{a0 rest:List cw}{segs:List (List cw)}
theorem Pn.psize(h:Pn κ P lt a0 st segs rest):(j9 st).size=segs.length:=by
 have:=congrArg eY h.pd
 rwa [ae,cJf,aT] at this
theorem Pn.size(h:Pn κ P lt a0 st segs rest):(bh st).size=a0.length:=by rw[<- aT];exact h.perm.length_eq
theorem Pn.room(h:Pn κ P lt a0 st segs rest):segs.flatten.length+rest.length=a0.length:=by rw[<- ax,<- h.arr];exact h.perm.length_eq
theorem Pn.next(h:Pn κ P lt a0 st segs rest){xs:Array cw}{n:Nat}(hn:1<=n)(hs:segs.flatten.length+n<=a0.length)(g:Gd segs.flatten.length (bh st) xs)(hu:Up lt xs segs.flatten.length (segs.flatten.length+n)) :
  ∃sg rest',sg.length=n/\Sd lt sg/\sg≠[]/\Pn κ P lt a0 (dy st xs) segs (sg++rest'):=by
 have J:xs.toList.length=a0.length:=by rw[aT,g.size,h.size]
 have B:xs.toList.take segs.flatten.length=segs.flatten:=by
  have:(bh st).toList.take segs.flatten.length=segs.flatten:=by rw[h.arr,iU (am _),dF]
  rw[<- this];refine h9 λi=>?_;rw[List.getElem?_take,List.getElem?_take,this]
  split
  ·next hi=>rw[br,br];exact g.2 i hi
  ·rfl
 refine⟨(xs.toList.drop segs.flatten.length).take n,(xs.toList.drop segs.flatten.length).drop n,by rw[a7,bQ];lia,?_,λe=>?_,h.kind,h.fl,?_,?_,h.sd,h.pd⟩
 ·refine cb.mpr λi j hi D G=>?_;rw[a7,bQ] at hi D
  have:=hu (segs.flatten.length+i) (segs.flatten.length+j) (by lia) (by lia) (by lia)
  have z:∀k,segs.flatten.length+k<xs.toList.length->∀d,((xs.toList.drop segs.flatten.length).take n)[k]'d=at0 xs (segs.flatten.length+k):=λk h1 d=>by
   rw[ib,jK];unfold at0;rw[<- br,ah h1]
   rfl
  rw[z i (by lia),z j (by lia)]
  exact this
 ·have:=congrArg eY e
  rw[a7,bQ,dq] at this;lia
 ·rw[b7]
  conv=>lhs;rw[<- b7 segs.flatten.length xs.toList,B]
 ·exact(dO.mp g.1).trans h.perm
theorem Pn.push(h:Pn κ P lt a0 st segs (sg++rest'))(hs:Sd lt sg)(hne:sg≠[]){lo n:Nat}(hlo:segs.flatten.length=lo)(hn:sg.length=n):Pn κ P lt a0 (setPending st ((j9 st).push (lo,n,0))) (segs++[sg]) rest':=by
 subst hlo hn;refine⟨h.kind,h.fl,?_,h.perm,λx d=>?_,?_⟩
 ·rw[h.arr];simp
 ·rcases a6.mp d with z|z
  ·exact h.sd x z
  ·rw[aF.mp z];exact⟨hs,hne⟩
 ·rw[ia,bo,h.pd,cJg];simp[offs,sl]
end
section
variable{prog:aA}{w:aO}{A:aW}{E:ad->ai->Prop}{s:ai}{κ:gH}{P:cw->Prop}{lt:cw->cw->Bool}{st:gU}{a0 rest:List cw}{segs:List (List cw)}
theorem dJt(o:Orc prog w A s κ P lt)(PA:∀x∈(bh st).toList,P x)(hk:kindOf st=κ)(hf:failedOf st=none)(hp:j9 st=#[])(h64:(bh st).size<64){Q:Unit->gU->Prop}
  (h:∀st',(bh st').toList.Perm (bh st).toList->failedOf st'=none->Sd lt (bh st').toList->Q () st'):wpS (aE prog w) A E s sortRuns' Q st:=by
 have h0:Pn κ P lt (bh st).toList st [] (bh st).toList:=⟨hk,hf,rfl,eL _,λ_ j=>absurd j fy,by rw[hp];rfl⟩
 have Z:∀{st' segs rest},Pn κ P lt (bh st).toList st' segs rest->∀x∈(bh st').toList,P x:=λI x j=>PA x (I.perm.mem_iff.mp j);have O:minRun' (bh st).size (bh st).size 0=(bh st).size:=by
  cases e:(bh st).size with
  |zero=>rfl
  |succ n=>rw[minRun'_succ,if_pos (by lia)]
 rw[sortRuns'_eq];refine bz (wpS_get ?_);have lz:(bh st).toList.length=(bh st).size:=aT;refine bz (gK (d3
  (I:=λx c st'=>∃segs rest,c=(none,segs.flatten.length)/\Pn κ P lt (bh st).toList st' segs rest/\x<=segs.flatten.length/\segs.length<=1/\(segs=[]\/rest=[]))
  (Q:=λc st'=>∃segs,c=(none,segs.flatten.length)/\Pn κ P lt (bh st).toList st' segs []/\segs.length<=1) ?step ?fin ⟨[],_,rfl,h0,am _,bN _,.inl rfl⟩) ?post)
 case fin =>
  rintro c st' ⟨segs,rest,rfl,I,j,h1,_⟩;have r:=I.room;obtain rfl:rest=[]:=bD (by lia)
  exact⟨segs,rfl,I,h1⟩
 case post =>
  rintro c st' ⟨segs,rfl,I,h1⟩;refine bz (gK (d3 (I:=λx c st'=>∃ segs,c=(none,())/\Pn κ P lt (bh st).toList st' segs []/\segs.length<=1)
   ?_ (λ_ _ hh=>hh) ⟨segs,rfl,I,h1⟩) ?_)
  ·rintro x c st' _ j ⟨segs,rfl,I,U⟩;refine bz (wpS_get ?_);have B:=I.psize;rw[if_pos (by lia)]
   exact bZ ⟨segs,rfl,I,U⟩
  ·rintro c st' ⟨segs,rfl,I,U⟩;refine bZ (h st' I.perm I.fl ?_);rw[I.arr,cR]
   match segs,U,I with
   |[],_,_=>exact d9
   |[sg],_,I=>rw[io];exact(I.sd sg (.head _)).1
 case step =>
  rintro x c st' _ j ⟨segs,rest,rfl,I,hxs,L,N⟩;have r:=I.room;have sz:=I.size;by_cases Y:segs.flatten.length>=(bh st).size
  ·rw[if_pos Y];obtain rfl:rest=[]:=bD (by lia)
   exact bZ ⟨segs,rfl,I,L⟩
  rw[if_neg Y];obtain rfl:segs=[]:=by
   rcases N with z|z
   ·exact z
   ·subst z;rw[dq] at r;exact absurd (by lia) Y
  refine bz (gXs o I.kind (Z I) (by lia) (by lia) λn xs n1 n2 g hu=>?_)
  dsimp only;rw[O];have z0:([]:List (List cw)).flatten.length=0:=rfl
  by_cases c2:n<(bh st).size
  rw[if_pos c2];refine bz (wpS_lift (en ⟨rfl,?_⟩));refine bz (gXt o I.kind (λx j=>Z I x ((dO.mp g.1).mem_iff.mp j)) (by have:=g.size;lia) (by lia) hu λys g2 J=>?_)
  rw[if_neg (by simp)]
  obtain⟨sg,d,ls,hs,D,G⟩:=I.next (by lia) (by lia) ⟨g2.1.trans g.1,λi hi=>(g2.2 i hi).trans (g.2 i hi)⟩ J
  rotate_left
  rw[if_neg c2];obtain⟨sg,d,ls,hs,D,G⟩:=I.next n1 (by lia) g hu
  all_goals
   have r2:=G.room;rw[ax] at r2;have B:=G.psize;obtain rfl:d=[]:=bD (by lia)
   refine bz (wpS_get ?_)
   split
   next s1 n1' _ hb =>
    exfalso
    have:=B
    have:=iI this
    rw[this] at hb;simp at hb
   next =>
    refine bz (ft (bZ ⟨[sg],[],?_,G.push hs D rfl ls,?_,am _,.inr rfl⟩))
    ·rw[io,ls];simp
    ·rw[io];lia
end
theorem aXj{α:Type}:∀{l:List α}{x y:α},(x,y)∈l.zip l->x=y/\x∈l
 |a::l,x,y,h=>by
  rw[cP] at h;rcases aw.mp h with e|h
  ·cases e;exact⟨rfl,.head _⟩
  ·exact⟨(aXj h).1,.tail _ (aXj h).2⟩
section
variable{prog:aA}{w:aO}{A:aW}{E:ad->ai->Prop}{s:ai}
theorem eX3{α:Type}{R:α->α->Prop}:∀l:List α,l.length<2->l.Pairwise R
 |[],_=>.nil
 |[x],_=>bI _ _
theorem sort_any64{a:Addr}{vs:List ad}{n:Nat}{P:PySem.Fin->ai->Prop}(lt:ad->ad->Bool)(h64:vs.length<64)(ho:s.heap.get? a=some (bK "list" vs.toArray n))
  (H:∀h2:bd,(∀b o,b≠a->s.heap.get? b=some o->h2.get? b=some o)->2<=vs.length->∀(Q:gH->ai->Prop),(∀κ,Orc prog w A {s with heap:=h2} κ (λx=>x.1∈vs) (λx y=>lt x.1 y.1)->Q κ {s with heap:=h2})->aD (aE prog w) A (keyKind' vs.toArray) Q E {s with heap:=h2})
  (h:∀xs:Array cw,xs.Perm (kC vs)->xs.toList.Pairwise (λx y=>lt y.1 x.1=false)->P (.done (.ret .none)) {s with heap:=jz s.heap a vs (xs.map (·.2))}) :
  aD (aE prog w) A (cX.«list.sort» ⟨[.ref a],[]⟩) P E s:=by
 have D:vs.length<=sizeLine:=by rw[aZ];lia
 rw[list_sort_plain];have Y:=aC ho;refine aa (kt ho rfl ?_);refine aa (gI ho rfl ?_ (by rw[aq];exact D) (bN _))
 obtain⟨G,z⟩:∃G,(s.heap.update a (bw λ_=>#[])).get? a=some (bK "list" #[] G):=⟨_,eU ho (λ_=>#[])⟩;refine aa (iT z rfl ?_);refine aa (wpAny_newTuple ?_ (D))
 refine aa (iO ?_ (bN _));refine bF ?_;have L:=bV s.heap a (bw λ_=>(#[]));have j:(((s.heap.update a (bw λ_=>#[])).push (bK "tuple" vs.toArray 0)).push (bK "list" #[] 0)).get? a=some (bK "list" #[] G):=af _ (af _ z);have kp:∀b o,b≠a->s.heap.get? b=some o->(((s.heap.update a (bw λ_=>#[])).push (bK "tuple" vs.toArray 0)).push (bK "list" #[] 0)).get? b=some o:=λb o O e=>af _ (af _ ((L.2 b O).trans e));dsimp only;have B:=pairsOf_size vs
 by_cases h2:vs.toArray.size<2
 ·rw[if_pos h2,if_pos h2];refine aa (ag ?_);rw[StateT.run_pure];refine aa (ag ?_);refine aa (iT j rfl ?_);refine aa (gI j rfl ?_ (bN _) (by rw[kR];show(kC vs).size<=_;rw[B];exact Nat.le_succ_of_le D))
  simp only[bne_self_eq_false,aJ,if_false];refine ag (h (kC vs) (kK _) ?_)
  have:(kC vs).toList.length<2:=by rw[aT,B];simpa using h2
  exact eX3 _ this
 ·rw[if_neg h2,if_neg h2];refine aa (H _ kp (by simpa using h2) _ fun κ o=>?_)
  refine aa (cO (dJt o (Q:=λ_ d=>(bh d).toList.Perm (kC vs).toList/\failedOf d=none/\Sd (λx y:cw=>lt x.1 y.1) (bh d).toList)
   (λx N=>(aXj (by rw[<- pairsOf_toList];exact N)).2) rfl rfl rfl (by show(kC vs).size<64;rw[B];exact h64) λd a1 a2 U=>⟨a1,a2,U⟩) ?_ λ_ _ e=>e)
  rintro⟨⟨⟩,d⟩ s' ⟨rfl,J,hf,hs⟩;refine aa (iT j rfl ?_);refine aa (gI j rfl ?_ (bN _) (by rw[kR,<- aT,J.length_eq,aT,B];exact Nat.le_succ_of_le D))
  rw[hf];simp only[bne_self_eq_false,aJ,if_false];exact ag (h _ (dO.mpr J) hs)
end
end SF
namespace KS
open PySem PySem.W PyProof.Rows
section
variable{prog:aA}{w:aO}{A:aW}{E:ad->ai->Prop}{s:ai}
open Classical in
theorem perm_map{α β:Type}{f:α->β}{l:List β}{k:List β}(h:l.Perm k):∀{m:List α},k=m.map f->∃m':List α,m'.Perm m/\l=m'.map f:=by
 induction h with
 |nil=>exact λe=>⟨_,eL _,e⟩
 |cons x _ L =>
  intro m e;cases m with
  |nil=>cases e
  |cons a m =>
   rw[a8] at e;injection e with j d
   obtain⟨m',p,q⟩:=L d;exact⟨a::m',p.cons a,by rw[a8,q,j]⟩
 |swap x y l =>
  intro m e;cases m with
  |nil=>cases e
  |cons a m =>
   cases m with
   |nil=>simp at e
   |cons b m =>
    rw[a8,a8] at e;injection e with j d
    injection d with d N
    exact⟨b::a::m,.swap _ _ _,by rw[a8,a8,j,d,N]⟩
 |trans p q B z =>
  intro m e;obtain⟨O,G,j⟩:=z e;obtain⟨J,D,d⟩:=B j;exact⟨J,D.trans G,d⟩
theorem idx_map{α:Type}(l:List α)(d:α):((aI l.length).map λi=>l.getD i d)=l:=by
 apply dY
 ·simp
 ·intro i h1 h2;simp only[gq,gS,ay];rw[ah h2]
  rfl
end
end KS
set_option maxHeartbeats 1000000
namespace L2
open PySem PySem.Spec PyProof.Rows
def smp:Nat->D->Bool
 |_,.int _=>true
 |_,.str _=>true
 |n+1,.tup xs=>xs.all (smp n)
 |_,_=>false
section
variable{X:Cx}{pins:List (Addr×Obj)}{σ:St}{H:Hp}{s:ai}{M:Am}
theorem cQn(h:∀d e x,f d=true->f e=true->RepV X.K M H d x->RepV X.K M H e x->d=e):∀{ds es:List D}{xs:List V},ds.all f=true->es.all f=true->RepL X.K M H ds xs->RepL X.K M H es xs->ds=es
 |[],[],_,_,_,_,_=>rfl
 |[],e::es,xs,_,_,p,q=>by
  obtain⟨v,vs,rfl,_⟩:=q;cases p
 |d::ds,[],xs,_,_,p,q=>by
  obtain⟨v,vs,rfl,_⟩:=p;cases q
 |d::ds,e::es,xs,a,b,p,q=>by
  obtain⟨v,vs,rfl,G,p2⟩:=p;obtain⟨O,j,N,B,z⟩:=q;injection N with L J
  subst L J;rw[jS,aV] at a b;rw[h d e v a.1 b.1 G B,cQn h a.2 b.2 p2 z]
theorem cJh(I:Inv X pins σ H s):∀(n:Nat) (d e:D) (x:V),smp n d=true->smp n e=true->RepV X.K M H d x->RepV X.K M H e x->d=e
 |0,d,e,x,a,b,p,q=>by
  cases d <;> first|(cases a;done)|skip
  all_goals (cases e <;> first|(cases b;done)|skip)
  all_goals (subst p)
  ·injection q with q;rw[q]
  ·cases q
  ·cases q
  ·injection q with q;rw[q]
 |n+1,d,e,x,a,b,p,q=>by
  cases d <;> first|(cases a;done)|skip
  all_goals (cases e <;> first|(cases b;done)|skip)
  ·subst p;injection q with q;rw[q]
  ·subst p;cases q
  ·subst p;obtain⟨_,_,e',_⟩:=q;cases e'
  ·subst p;cases q
  ·subst p;injection q with q;rw[q]
  ·subst p;obtain⟨_,_,e',_⟩:=q;cases e'
  ·subst q;obtain⟨_,_,e',_⟩:=p;cases e'
  ·subst q;obtain⟨_,_,e',_⟩:=p;cases e'
  ·rename_i ds es;obtain⟨a1,xs,rfl,t,l⟩:=p;obtain⟨a2,ys,e',j,z⟩:=q;injection e' with e'
   subst e'
   have:=I.tuple_inj t.sq j.sq
   subst this;rw[cQn (λd e x=>cJh I n d e x) a b l z]
open PySem.W in
theorem dJu(I:Inv X pins σ H s){n:Nat}{A:aW}{c:Bool}{d e:D}{x y:V}{u v:ad}{Q:Bool->ai->Prop}{E:ad->ai->Prop}(hu:A.units+n<bR)(h:RepV X.K M H d x)(h':RepV X.K M H e y)(r:RelV x u)(r':RelV y v)(o:okL n d e=true)(hd:smp n d=true)(he:smp n e=true)
  (q:Q (ltN n d e) s):aD (aE X.prog X.w) A (oneLt' c u v) Q E s:=by
 cases c with
 |false=>exact kat_one _ _ (fZy I n hu h h' r r' o _ _ _ _ (show j7 Q (.bool (ltN n d e)) s from q))
 |true =>
  cases n with
  |zero =>
   cases d <;> first|(cases hd;done)|skip
   all_goals (cases e <;> first|(cases o;done)|skip)
   all_goals unfold RepV at h h';subst h;subst h';obtain⟨t,rfl⟩:=r;obtain⟨B,rfl⟩:=r'
   ·exact kD q
   ·exact kE q
  |succ n =>
   cases d <;> first|(cases hd;done)|skip
   all_goals (cases e <;> first|(cases o;done)|skip)
   ·unfold RepV at h h';subst h;subst h';obtain⟨t,rfl⟩:=r;obtain⟨B,rfl⟩:=r';exact kD q
   ·unfold RepV at h h';subst h;subst h';obtain⟨t,rfl⟩:=r;obtain⟨B,rfl⟩:=r';exact kE q
   ·rename_i ds es;unfold RepV at h h';obtain⟨a,xs,rfl,t,l⟩:=h;obtain⟨b,ys,rfl,B,l'⟩:=h';cases r;cases r';obtain⟨us,ru,pl,_⟩:=I.tuple t.sq;obtain⟨vs,Z,J,_⟩:=I.tuple B.sq;obtain⟨⟨cls,dd,data,sl⟩,N,U,n1,j⟩:=id pl;obtain⟨⟨Y,O,data2,G⟩,L,z,n2,hd2⟩:=id J;simp only at U j z hd2;subst U j z hd2;rw[oneLt'_eq];simp only[if_true];refine aa (wpAny_cRoomFor (by lia) ?_)
    refine aa (iG ⟨_,N,rfl⟩ dR (jr dR ⟨_,N,rfl⟩ fO (fC _ _) (HT.tuple_lt_gen a b _ _ n1 n2 dd O sl G (lexN (ltN n) ds es)) ⟨N,L,?_,?_⟩))
    ·exact cQe (λp q r r' o=>(eq3 I n (show A.units+1+n<bR by lia) p q r r' o).eq) (λp q r r' o=>fZy I n (show A.units+1+n<bR by lia) p q r r' o) l l' ru Z o
    ·exact cJ q
open PySem.W in
theorem katD(I:Inv X pins σ H s){n:Nat}{A:aW}{c:Bool}{Q:Bool->ai->Prop}(hu:A.units+n<bR):∀{ds es:List D}{xs ys:List V}{us vs:List ad}(i:Nat) {fin:Bool},RepL X.K M H ds xs->RepL X.K M H es ys->Vals xs us->Vals ys vs->okLs (okL n) n ds es=true->ds.all (smp n)=true->es.all (smp n)=true->fin=decide (us.length<vs.length)->Q (lexN (ltN n) ds es) s->KatLex X.prog X.w A c fin Q (us.zip vs) i s
 |[],[],_,_,_,_,i,fin,p,q,r,t,_,_,_,hf,h=>by
  unfold RepL at p q;subst p;subst q;cases r;cases t;subst hf;exact kat_nil h
 |[],e::es,_,_,_,_,i,fin,p,q,r,t,_,_,_,hf,h=>by
  unfold RepL at p q;subst p;obtain⟨v,vs,rfl,_,_⟩:=q;cases r;cases t;subst hf;rw[f8];exact kat_nil (by simpa [lexN] using h)
 |d::ds,[],_,_,_,_,i,fin,p,q,r,t,_,_,_,hf,h=>by
  unfold RepL at p q;subst q;obtain⟨v,vs,rfl,_,_⟩:=p;cases r;cases t;subst hf;rw[gR];exact kat_nil (by simpa [lexN] using h)
 |d::ds,e::es,_,_,_,_,i,fin,p,q,r,t,o,s1,s2,hf,h=>by
  unfold RepL at p q;obtain⟨x,xs,rfl,G,p2⟩:=p;obtain⟨y,ys,rfl,B,N⟩:=q;cases r with
  |cons j L =>
   cases t with
   |cons t1 J =>
    unfold okLs at o;rw[aV] at o;rw[jS,aV] at s1 s2;rw[cP];unfold lexN at h;refine kat_cons ((eq3 I n hu G B j t1 o.1).eq _ _ _ _ ?_);refine kat_go (λz=>kat_yes ?_) λz=>kat_no ?_
    ·have z:=of_decide_eq_true z;rw[if_pos z] at h o;exact katD I hu (i+1) p2 N L J o.2 s1.2 s2.2 (by subst hf;simp) h
    ·have z:=of_decide_eq_false z;rw[if_neg z] at h o;exact dJu I hu G B j t1 o.2 s1.1 s2.1 h
open PySem.W in
theorem fXx(I:Inv X pins σ H s){n:Nat}{A:aW}{κ:gH}{d e:D}{x y:V}{u v:ad}{Q:Bool->ai->Prop}{E:ad->ai->Prop}(hu:A.units+(n+1)<bR)(h:RepV X.K M H d x)(h':RepV X.K M H e y)(r:RelV x u)(r':RelV y v)(o:okL (n+1) d e=true)(hd:smp (n+1) d=true)(he:smp (n+1) e=true)(ht:∃xs,d=.tup xs)(ht':∃xs,e=.tup xs)
  (hκ:(∃c,κ=tuples' c)\/κ=general'\/κ=oneType') (q:Q (ltN (n+1) d e) s):aD (aE X.prog X.w) A (keyLt' κ u v) Q E s:=by
 rcases hκ with⟨c,rfl⟩|rfl|rfl
 ·obtain⟨ds,rfl⟩:=ht;obtain⟨es,rfl⟩:=ht';unfold RepV at h h';obtain⟨a,xs,rfl,t,l⟩:=h;obtain⟨b,ys,rfl,B,L⟩:=h';cases r;cases r';obtain⟨us,J,⟨Y,N,hc,n1,z⟩,_⟩:=I.tuple t.sq;obtain⟨vs,G,⟨U,j,O,Z,hd2⟩,_⟩:=I.tuple B.sq;refine kat_lt N z j hd2 ?_;exact katD I (show A.units+n<bR by lia) 0 l L J G o hd he (by simp) q
 ·show aD _ _ (oneLt' false _ _) _ _ _;exact dJu I hu h h' r r' o hd he q
 ·rw[keyLt'_oneType];exact dJu I hu h h' r r' o hd he q
def TyL(h:bd)(v:ad):Prop:=(∃x t,v=.str x t)\/(∃i t,v=.int i t)\/∃b o T,v=.ref b/\h.get? b=some o/\o.cls=.type T
def TupL(h:bd)(v:ad):Prop:=∃b items,v=.ref b/\gV h b items/\∀x∈items.toList,TyL h x
theorem TupL.ty(t:TupL h v):TyL h v:=by
 obtain⟨b,items,rfl,⟨o,d,j,_⟩,_⟩:=t;exact .inr (.inr ⟨b,o, "tuple",rfl,d,j⟩)
open PySem.W in
theorem cJi{prog:aA}{w:aO}{A:aW}{E:ad->ai->Prop}{s:ai}:∀{vs:List ad}{Q:List ad->ai->Prop},(∀v∈vs,TyL s.heap v)->(∀ts,Q ts s)->aD (aE prog w) A (vs.mapM typeOf) Q E s
 |[],_,_,h=>by rw[lg];exact ag (h [])
 |v::vs,Q,p,h=>by
  rw[kW];refine aa ?_;have rest:∀t:ad,aD (aE prog w) A (vs.mapM typeOf>>=λts=>pure (t::ts)) Q E s:=λt=>aa (cJi (λu hu=>p u (ak _ hu)) λts=>ag (h _));rcases p v aj with⟨x,t,rfl⟩|⟨i,t,rfl⟩|⟨b,o,T,rfl,d,j⟩
  ·exact ag (rest _)
  ·exact ag (rest _)
  ·exact Looks.here (show Looks (aE prog w) s.heap (typeOf (.ref b)) o.cls from(Looks.ld d).andThen .now) (rest _)
open PySem.W in
theorem dJv{prog:aA}{w:aO}{A:aW}{E:ad->ai->Prop}{s:ai}:∀{vs:List ad}{Q:List (Option ad)->ai->Prop},(∀v∈vs,TupL s.heap v)->(∀fs:List (Option ad),(∀f∈fs,∀v,f=some v->TyL s.heap v)->Q fs s)->aD (aE prog w) A (vs.mapM firstOfTuple') Q E s
 |[],_,_,h=>by rw[lg];exact ag (h [] λf hf=>by cases hf)
 |v::vs,Q,p,h=>by
  obtain⟨b,items,rfl,⟨o,d,z,n,hd⟩,j⟩:=p v aj;rw[kW];refine aa ?_;rw[kas_first_eq];refine aa (Looks.here (show Looks (aE prog w) s.heap (typeOf (.ref b)) o.cls from(Looks.ld d).andThen .now) ?_)
  rw[z,if_neg (by first|decide|simp)]
  refine aa (kt d hd (ag ?_));refine aa (dJv (λu hu=>p u (ak _ hu)) λfs pf=>ag (h _ λf hf v e=>?_));rcases aw.mp hf with rfl|hf
  ·refine j v ?_
   have:=eN e
   simpa using this
  ·exact pf f hf v e
open PySem.W in
theorem hQl{prog:aA}{w:aO}{A:aW}{E:ad->ai->Prop}{s:ai}{vs:List ad}{Q:gH->ai->Prop}(p:∀v∈vs,TupL s.heap v)(h:∀κ,(∃c,κ=tuples' c)\/κ=general'\/κ=oneType'->Q κ s):aD (aE prog w) A (keyKind' vs.toArray) Q E s:=by
 rw[kat_kind_eq,f9,map_eq_pure_bind];refine aa (aa (dJv p λfs pf=>ag ?_));have one:∀(gs:List ad) (z:Option ad->ai->Prop),(∀v∈gs,TyL s.heap v)->(∀o,z o s)->aD (aE prog w) A (oneTypeOnly' gs.toArray) z E s:=λgs z D B=>by
  rw[oneTypeOnly'_eq,f9,map_eq_pure_bind];refine aa (aa (cJi D λts=>ag ?_));cases ts.toArray[0]? with
  |none=>exact ag (B _)
  |some t=>exact ag (B _)
 by_cases d:(fs.toArray.all λx=>x.isSome)=true
 ·rw[if_pos d];refine aa (en ?_);have e:fs.toArray.filterMap id=(fs.filterMap id).toArray:=by simp
  rw[e];refine aa (one _ _ (λv j=>?_) λo=>ag (h _ (.inl ⟨_,rfl⟩)));obtain⟨f,hf,e⟩:=dW.mp j;exact pf f hf v e
 ·rw[if_neg d]
  by_cases h1:((fs.toArray[0]?.bind id).isSome)=true
  ·rw[if_pos h1];exact ag (h _ (.inr (.inl rfl)))
  ·rw[if_neg h1];refine aa (one _ _ (λv j=>(p v j).ty) λo=>?_);cases o with
   |none=>exact ag (h _ (.inr (.inl rfl)))
   |some t=>exact ag (h _ (.inr (.inr rfl)))
end
structure SrtOk(ds:List D):Prop where
 tup:∀d∈ds,∃xs,d=.tup xs
 smp:∀d∈ds,smp 8 d=true
 ok:∀a∈ds,∀b∈ds,okL 8 a b=true
 as:∀a∈ds,∀b∈ds,ltN 8 a b=true->ltN 8 b a=false
 tr:∀a∈ds,∀b∈ds,∀c∈ds,ltN 8 b a=false->ltN 8 c b=false->ltN 8 c a=false
section
variable{X:Cx}{K:Fg}{pos:Pos}{k:Nat}
open Classical in
noncomputable def decD(K:Fg)(M:Am)(H:Hp)(ds:List D)(v:ad):D:=if e:∃d,d∈ds/\∃x,RepV K M H d x/\RelV x v then e.choose else .non
theorem dJw{σ:St}(I:Inv X pins σ H s)(ok:SrtOk ds){d:D}{x:V}{v:ad}(hd:d∈ds)(h:RepV X.K M H d x)(r:RelV x v):decD X.K M H ds v=d:=by
 have e:∃d,d∈ds/\∃x,RepV X.K M H d x/\RelV x v:=⟨d,hd,x,h,r⟩;unfold decD;rw[dif_pos e];obtain⟨h1,y,h2,h3⟩:=e.choose_spec;generalize e.choose=B at h1 h2 ⊢;obtain⟨xs,rfl⟩:=ok.tup d hd;obtain⟨j,rfl⟩:=ok.tup B h1;have s1:=ok.smp _ hd;have s2:=ok.smp _ h1;have z:x=y:=by
  obtain⟨a,_,rfl,_⟩:=h;obtain⟨b,_,rfl,_⟩:=h2;cases r;cases h3;rfl
 subst z;exact cJh I 8 _ _ _ s2 s1 h2 h
def gXu(K:Fg):List V->Hp->VK->Prop:=λxs H Q=>∃(x:V) (us:List V) (ds:List D) (M:Am),xs=[x]/\Src K H x us/\RepL K M H ds us/\SrtOk ds/\ds.length<64/\∀(p:Addr) (idx:List Nat),H p=none->idx.Perm (aI us.length)->(idx.map λi=>ds.getD i .non).Pairwise (λa b=>ltN 8 b a=false)->Q (.ref p) (upd H p (.lst (idx.map λi=>us.getD i V.non)))
theorem aJg:∀{ds:List D}{us:List V}{vs:List ad},RepL K M H ds us->Vals us vs->∀i,i<vs.length->∃x,RepV K M H (ds.getD i .non) x/\RelV x (vs.getD i bJ)/\ds.getD i .non∈ds
 |[],us,vs,l,r,i,hi=>by
  subst l;cases r;exact absurd hi (b8 _)
 |d::ds,us,vs,l,r,i,hi=>by
  obtain⟨x,xs,rfl,G,B⟩:=l;cases r with
  |cons z j =>
   cases i with
   |zero=>exact⟨x,G,z,aj⟩
   |succ i =>
    obtain⟨y,a,b,c⟩:=aJg B j i (by simpa using hi)
    exact⟨y,a,b,ak _ c⟩
theorem dJx{σ:St}{s:ai}{Q:VK}(hu:X.A.units+16<bR)(I1:Inv X pins σ H {s with heap:=h1,drawn:=d,toks:=tk})(lr:RepL X.K M H ds ys)(pv:Vals ys vals)(ok:SrtOk ds)(h64:ds.length<64)(hz:ys.length<=sizeLine)
  (q:∀(p:Addr) (idx:List Nat),H p=none->idx.Perm (aI ys.length)->(idx.map λi=>ds.getD i .non).Pairwise (λa b=>ltN 8 b a=false)->Q (.ref p) (upd H p (.lst (idx.map λi=>ys.getD i V.non)))) :
  aD (aE X.prog X.w) X.A.in1.in1 (cX.«list.sort» ⟨[.ref h1.objs.size],[]⟩) (λfin s'=>fin=.done (.ret .none)/\∃v H',Inv X pins σ H' s'/\RelV v (.ref h1.objs.size)/\Q v H') X.xe {s with heap:=h1.push (bK "list" vals.toArray 0),drawn:=d,toks:=tk}:=by
 have hl:=lr.length.symm;have U:=pv.length;have hfr:=I1.hok.fresh (am _);have ho:({s with heap:=h1.push (bK "list" vals.toArray 0),drawn:=d,toks:=tk}).heap.get? h1.objs.size=some (bK "list" vals.toArray 0):=au _ rfl
 have B:∀v∈vals,∃x,RepV X.K M H (decD X.K M H ds v) x/\RelV x v/\decD X.K M H ds v∈ds:=λv hv=>by
  obtain⟨i,hi,e⟩:=bf hv;obtain⟨x,a,b,c⟩:=aJg lr pv i hi;have ev:vals.getD i bJ=v:=by rw[ay,ah hi,<- e];rfl
  rw[ev] at b;rw[dJw I1 ok c a b];exact⟨x,a,b,c⟩
 refine SF.sort_any64 (λu v=>ltN 8 (decD X.K M H ds u) (decD X.K M H ds v)) (by lia) ho (λh2 kp2 h2l Q' hq=>?_) λxs L Y=>⟨rfl,?_⟩
 ·have I2:=I1.toks (λb o e=>kp2 b o (aN (aC e)) (af _ e)) d tk
  refine hQl (λv hv=>?_) fun κ hκ=>hq κ ⟨λx y Q L G q=>?_,λx y L G e=>?_,λx y z L G hz O e2=>?_⟩
  ·obtain⟨x,a,b,c⟩:=B v hv;obtain⟨es,ed⟩:=ok.tup _ c;have sm:=ok.smp _ c;rw[ed] at a sm;obtain⟨p,ws,rfl,t,l⟩:=a;cases b;obtain⟨its,rv,pl,_⟩:=I2.tuple t.sq;refine⟨p,_,rfl,pl,λy G=>?_⟩;have G:y∈its:=by simpa using G
   obtain⟨i,hi,ei⟩:=bf G;obtain⟨z,J,z2,z3⟩:=aJg l rv i hi;have ev:its.getD i bJ=y:=by rw[ay,ah hi,<- ei];rfl
   rw[ev] at z2;have sz:=ba.mp sm _ z3;generalize es.getD i .non=g at J sz;cases g <;> first|(cases sz;done)|skip
   ·subst J;obtain⟨t,rfl⟩:=z2;exact .inr (.inl ⟨_,t,rfl⟩)
   ·subst J;obtain⟨t,rfl⟩:=z2;exact .inl ⟨_,t,rfl⟩
   ·obtain⟨p',ws',rfl,t',l'⟩:=J;cases z2;obtain⟨its',_,⟨o',ho',hc',_⟩,_⟩:=I2.tuple t'.sq;exact .inr (.inr ⟨p',o', "tuple",rfl,ho',hc'⟩)
  ·obtain⟨x1,a1,b1,c1⟩:=B _ L;obtain⟨x2,a2,b2,Z⟩:=B _ G;exact fXx I2 (by lia) a1 a2 b1 b2 (ok.ok _ c1 _ Z) (ok.smp _ c1) (ok.smp _ Z) (ok.tup _ c1) (ok.tup _ Z) hκ q
  ·exact ok.as _ (B _ L).choose_spec.2.2 _ (B _ G).choose_spec.2.2 e
  ·exact ok.tr _ (B _ L).choose_spec.2.2 _ (B _ G).choose_spec.2.2 _ (B _ hz).choose_spec.2.2 O e2
 ·have pl:=dO.mp L;obtain⟨idx,p1,O⟩:=KS.perm_map pl (by
   rw[pairsOf_toList]
   conv=>lhs;rw[<- KS.idx_map vals bJ]
   rw[List.zip_map'])
  have N:∀i∈idx,i<vals.length:=λi hi=>aU.mp (p1.mem_iff.mp hi);have eo:xs.map (·.2)=(idx.map λi=>vals.getD i bJ).toArray:=by
   apply j8.mp;rw[Array.toList_map,O,bi]
   rfl
  rw[eo];rw[O,bu] at Y;have srt:(idx.map λi=>ds.getD i .non).Pairwise (λa b=>ltN 8 b a=false):=by
   rw[bu];refine Y.imp_of_mem λ{i j} hi hj hij=>?_;obtain⟨x1,a1,b1,c1⟩:=aJg lr pv i (N i hi);obtain⟨x2,a2,b2,Z⟩:=aJg lr pv j (N j hj);have d1:=dJw I1 ok c1 a1 b1;have d2:=dJw I1 ok Z a2 b2;rw[<- d1,<- d2];exact hij
  have s2:=bV ((((h1.push (bK "list" vals.toArray 0)).update h1.objs.size (bw λ_=>(#[]))).push (bK "tuple" vals.toArray 0)).push (bK "list" #[] 0)) h1.objs.size (bw λ_=>(idx.map λi=>vals.getD i bJ).toArray);obtain⟨e2,ho1⟩:∃O,((h1.push (bK "list" vals.toArray 0)).update h1.objs.size (bw λ_=>(#[]))).get? h1.objs.size=some (bK "list" #[] O):=⟨_,i6 ho λ_=>#[]⟩;have sb:=bV (h1.push (bK "list" vals.toArray 0)) h1.objs.size (bw λ_=>(#[]));have il:idx.length=vals.length:=by have:=p1.length_eq;simpa using this
  have kk:∀b o,b≠h1.objs.size->(h1.push (bK "list" vals.toArray 0)).get? b=some o->(jz (h1.push (bK "list" vals.toArray 0)) h1.objs.size vals (idx.map λi=>vals.getD i bJ).toArray).get? b=some o:=λb o hb e=>(s2.2 b hb).trans (af _ (af _ ((sb.2 b hb).trans e)));refine⟨.ref h1.objs.size,_,I1.laid (o:=.lst (idx.map λi=>ys.getD i V.non)) (λb o e=>kk b o (aN (aC e)) (af _ e)) (am _) ⟨?_,_,_,bXy pv idx (λi hi=>by rw[U];exact N i hi),i6 (af _ (af _ ho1)) λ_=>_⟩,rfl,q _ idx hfr (by rw[U];exact p1) srt⟩
  rw[ae];lia
theorem dJy(hu:X.A.units+16<bR)(hK:X.K=K:=by rfl)(hc:X.calm=true:=by rfl):CallR X (.builtin "sorted") (gXu K):=by
 intro pins s σ H xs us Q I r h;obtain⟨x,ys,ds,M,rfl,hs,G,ok,j,q⟩:=h;obtain⟨u,rfl,D⟩:=aX4 r;obtain⟨col,z⟩:=I.src hK hs D;subst hK;refine aXo (I.ok.hd hc) col (λvals v=>by rw[<- v.length];exact z) λvals h1 d B pv kp=>?_
 exact dJx hu (I.toks kp d B) G pv ok j z q
def srtN(b:Bool):RCD:=λds S Q=>∃d xs,ds=[d]/\srcIs S d xs/\SrtOk xs/\xs.length<64/\∀out,out.Perm xs->out.Pairwise (λa b=>ltN 8 b a=false)->newL b out S Q
theorem fXy:bZr K (gXu K) (srtN b):=by
 intro F S H ds vs Q QD r l h c;obtain⟨d,xs,rfl,h1,ok,B,q⟩:=h;obtain⟨v,rfl,G⟩:=l.one;obtain⟨us,hs,j⟩:=h1.src r G;refine⟨v,us,xs,_,rfl,hs,j,ok,B,λp idx L D J=>?_⟩;have hl:=j.length;have z:∀i∈idx,i<us.length:=λi hi=>aU.mp (D.mem_iff.mp hi);have ir:=dXq j idx z;refine c.new r L ir (q _ ?_ J)
 have:=D.map λi=>xs.getD i .non
 rw[hl,KS.idx_map] at this;exact this
theorem dJz{b:Bool}{e:Expr}{t:AD}{p:Pos}(hr:Room k X.A)(hg:Gl X "sorted")(hm:X.mg "sorted"=none)(ha:PAD K X [e] t)(hK:X.K=K:=by rfl)(hc:X.calm=true:=by rfl)(he:az [e] X.env=(false,eval e X.env)::az [] X.env:=by rfl)(hpl:(cC pos (az [] X.env)).any (·.1)=false:=by rfl):PD K X (.Call (.Name "sorted" p) [e] [] pos) (dCB (srtN b) t):=aXz (dJy (lt10 hr) hK hc) fXy hg hm aJ5 ha (by decide) (by decide) he hpl
end
end L2
namespace Toy
open PySem L2
abbrev s_law_parts_right:Stmt:=top 33
theorem sc_law_parts_right:FnScope ["sets", "parts", "most", "some"] ["sets", "parts"] (aQ5 s_law_parts_right):=fsc
def eJe(pt:Addr):SpD:=λds S Q=>∃(ts:List (List Str)) (r:List (List (List Str))),ds=[.tup (ts.map tupS),.tup (r.map flE.e)]/\S pt=some (.tb lpos (lamQual "first_of_longest"))/\CollB 9 ts/\FW ts r/\Q (.bl true) S
section
variable{P:aA}{w:aO}{K:ar}{mg:Str->Option ad}{base:bd}{pt cc:Addr}
theorem aJh(T:Tx K mg "_law_parts_right" s_law_parts_right)(B:Bs mg)(d_parting_shown:Df P w K mg base 39 "parting_shown" ["sets", "parts"] (spU K aX3))(d_greatest_flower:Df P w K mg base 39 "greatest_flower" ["sets"] (spU K (dJr pt)))(d_flower_shown:Df P w K mg base 39 "flower_shown" ["sets", "many", "some"] (spU K aXi))(d_core_of:Df P w K mg base 39 "core_of" ["some"] (spU K aZg)):Df P w K mg base 40 "_law_parts_right" ["sets", "parts"] (spU K (eJe pt)):=by
 refine aZ1 T sc_law_parts_right (λF=>F.binds λ_ _ _ _ _ _=>us2 λ_ _=>rfl) ?_ λf cdv A outer s H E j=>⟨_,(aQ2 (aQz (PWD.pt (dX0 (aJ0 j (aQ3 d_parting_shown j rfl (aQ0 (dv 0) (aQ0 (dv 1) aQ1))) e_bl) (cQ7 (aJ0 j (aQ3 d_parting_shown j rfl (aQ0 (dv 0) (aQ0 (e_rv (b:=false) (dv 1)) aQ1))) e_bl)))) (aQ4 (aQ8 e_bl)) aQh)
  (aQ2 (aQz (aJ0 j (aQ3 d_parting_shown j rfl (aQ0 (dv 0) (aQ0 (aZ3 rfl B.tuple (aQ0 (aQq (N':=["some"]) (oc:=none) (b:=false) [0] [] rfl sc_law_parts_right.nd (λ_ _ _=>aQc ..) (.own .nil) (aQf rfl) (aQv (dv 1)) (cg_name (i:=0)) (λ_ _ _ _ _=>aQa (i:=0) (nd_ ["some"]) rfl (aS rfl) (.inr rfl)) (λ_ _ _ _ _=>aQk) aQi (λ_ _ _ _ _ _=>aQg rfl (by exact PD.o (e_rv (b:=false) (dv 0))))) aQ1)) aQ1))) e_bl) (aQ4 (aQ8 e_bl)) aQh)
  (cZb (aQb (i:=2) sc_law_parts_right.nd rfl (aS rfl) (aQs rfl B.len (aQ0 (hQj (aQ3 d_greatest_flower j rfl (aQ0 (dv 0) aQ1)) (dZz (e_sl (b:=false) (dv 0) aZh (aZ4 aQ6)))) aQ1)))
  (aQ2 (aX9 cS rfl (aQv (dv 1)) (aZ5 (i:=3) sc_law_parts_right.nd rfl (aS rfl)) (aQ2 (aQz (eQx j (aQs rfl B.len (aQ0 (dv 3) aQ1)) (dv 2)) (aQ4 (aQ8 e_bl)) aQh)
  (aQ2 (aQz (PWD.pt (cQ8 (gQu j (aQs rfl B.len (aQ0 (dv 3) aQ1)) (bZq (aQ0 aQ6 (aQ0 aQ6 (aQ0 aQ6 (aQ0 aQ6 (aQ0 aQ6 aQ1))))))) (bZ1 (aJ0 j (aQ3 d_flower_shown j rfl (aQ0 (dv 0) (aQ0 (aQs rfl B.len (aQ0 (dv 3) aQ1)) (aQ0 (dv 3) aQ1)))) e_bl)))) (aQ4 (aQ8 e_bl)) aQh)
  (aQ4 (aQz (PWD.pt (cQ8 (eQx j (aQs rfl B.len (aQ0 (dv 3) aQ1)) aQ6) (bZ1 (eQz j (aQ3 d_core_of j rfl (aQ0 (dv 3) aQ1)) aX6)))) (aQ4 (aQ8 e_bl)) aQh)))))
  (aQ4 (aQ8 (e_eq j (cQ9 (b:=false) rfl B.list (aQ0 (dv 1) aQ1)) (dJz (b:=false) j rfl B.sorted (aQ0 (dv 1) aQ1))))))))),?_⟩
 ·rintro ds S Q ⟨ts,r,rfl,_⟩;rfl
 ·rintro ds S Q ⟨ts,r,rfl,hP,hC,w,q⟩;have hs:=hC.srt;have het:∀t∈ts,Srt t:=λt J=>(hC.each t J).1;have hl:=hC.len;have l6:∀t∈ts,t.length<=6:=λt J=>(hC.each t J).2;have c:=w.cp;have rl:r.length<=5:=by have:=cJb hs het w;omega
  have ok:∀p∈r,okP p=true:=λp G=>(c.each p G).2.2;refine⟨ts,r,rfl,c.perm,hs,by omega,by omega,l6,ok,_,rfl,?_⟩
  refine⟨ts,r.reverse,by rw[List.map_reverse],(jL r).flatten.trans c.perm,hs,by omega,by rw[gx];omega,l6,λp G=>ok p (List.mem_reverse.mp G),_,rfl,?_⟩
  refine⟨_,rfl,aQn (λp G Q q=>by
   show Q (.tup (p.map tupS).reverse) _;rw[<- List.map_reverse];exact q) (aQd (by show 0+r.length<=9999;lia)) ?_⟩
  rw[c9];have fr:∀l:List (List (List Str)),(l.map List.reverse).flatten.Perm l.flatten:=λl=>by
   induction l with
   |nil=>exact .refl _
   |cons p l ih=>rw[a8,c6,c6];exact(jL p).append ih
  have okr:∀p∈r.map List.reverse,okP p=true:=λp G=>by
   obtain⟨O,Y,rfl⟩:=av.mp G;have nd:=hs.nodup.sublist (c.each O Y).1;exact cZs nd ((jL O).nodup_iff.mpr nd) (λo ho=>het o ((c.each O Y).1.subset ho)) (λx=>List.mem_reverse.symm) (ok O Y)
  refine⟨_,rfl,ts,r.map List.reverse,by rw[bi];rfl,(fr r).trans c.perm,hs,by lia,by rw[ae];lia,l6,okr,_,rfl,?_⟩
  refine⟨fun Γ' S'=>∃m:Nat,Γ'=[some (.tup (ts.map tupS)),some (.tup (r.map flE.e)),some (.int m),none]/\S'=S/\∀p∈r,p.length<=m,?_,?_⟩
  ·refine⟨ts,rfl,hP,hs,by lia,by lia,λt J=>⟨het t J,by have:=l6 t J;lia⟩,λout os om=>?_⟩
   cases out with
   |nil =>
    have:=iK.mpr λx hx=>by cases (om x).mpr hx
    have t1:=cJ9 this;refine⟨1,rfl,_,rfl,(cutD (ts.map tupS) none (some 1)).length,rfl,rfl,λp G=>?_⟩;obtain⟨U,p2,_⟩:=c.each p G;have p0:=fx.mpr p2
    have:=U.length_le
    have e:cutD (ts.map tupS) none (some ((1:Nat)))=(ts.map tupS).take 1:=gXb _ 1 (by rw[ae];lia)
    show _<=(cutD (ts.map tupS) none (some ((1:Nat)))).length;rw[e,a7,ae];lia
   |cons d cs =>
    have g:=dJm (out:=d::cs) hs het om;have g2:=g.two;refine ite2 (λz=>?_) λ_=>⟨_,rfl,_,rfl,rfl,λp G=>?_⟩
    ·have:=congrArg eY z
     rw[ae] at this;rw[this] at g2;exact absurd g2 (by decide)
    ·rw[ae];obtain⟨U,p2,p3⟩:=c.each p G
     by_cases h2:2<=p.length
     ·exact g.most p U (bXf p3 h2)
     ·lia
  rintro Γ' S0 ⟨m,rfl,rfl,hm⟩;refine⟨_,rfl,aZk (λi Γ S'=>∃x3:Option D,Γ=[some (.tup (ts.map tupS)),some (.tup (r.map flE.e)),some (.int m),x3]/\S'=S0) ⟨none,rfl,rfl⟩ ?_ ?_⟩
  ·rintro i x Γ S1 N hx ⟨x3,rfl,rfl⟩ hN;rw[aY,bO] at hx;obtain⟨p,hx,rfl⟩:=hx;have G:=bS hx;obtain⟨U,p2,p3⟩:=c.each p G;have pl:=U.length_le;have p6:=λt J=>l6 t (U.subset J);refine⟨trivial,_,rfl,_,rfl,ite2 (λz=>?_) λ_=>?_⟩
   ·have:=of_decide_eq_true z
    rw[ae] at this
    have:=hm p G
    lia
   have c2:=bXf p3;refine⟨_,rfl,aQd (by decide),_,rfl,rfl,rfl,_,rfl,ite2 (λz=>?_) λ_=>?_⟩
   ·have h2:2<=p.length:=by
     have z:=z;have z:=of_decide_eq_true z;rw[ae] at z;simp at z;lia
    refine⟨_,rfl,ts,p,by rw[ae];rfl,hs,U,by lia,hC.each,c2 h2,_,rfl,?_⟩
    refine⟨_,rfl,_,rfl,ite2 (λz=>?_) λ_=>hN _ _ ⟨_,rfl,rfl⟩⟩;refine⟨p,rfl,by lia,λt J=>by have:=p6 t J;lia,aH (bXd (aH pl hl) p6) (by decide),?_⟩
    obtain⟨d,hd⟩:=bn.mp (c2 h2);rw[hd];exact⟨_,rfl,hN _ _ ⟨_,rfl,rfl⟩⟩
   ·refine⟨_,rfl,_,rfl,ite2 (λz=>?_) λ_=>hN _ _ ⟨_,rfl,rfl⟩⟩;have h2:2<=p.length:=by
     have:=of_decide_eq_true z
     rw[ae] at this;lia
    refine⟨p,rfl,by lia,λt J=>by have:=p6 t J;lia,aH (bXd (aH pl hl) p6) (by decide),?_⟩
    obtain⟨d,hd⟩:=bn.mp (c2 h2);rw[hd];exact⟨_,rfl,hN _ _ ⟨_,rfl,rfl⟩⟩
  ·rintro Γ S1 ⟨x3,rfl,rfl⟩;have lte:=λp q=>flE.lte 8 p q (by decide)
   have L:STO flE.lt:=by
    show STO (lexG setE.lt);rw[cZl];exact sto_lex.lexG
   have sok:SrtOk (r.map flE.e):=by
    refine⟨λd hd=>?_,λd hd=>?_,λa ha b Z=>?_,λa ha b Z=>?_,λa ha b Z d hd=>?_⟩
    ·obtain⟨p,_,rfl⟩:=av.mp hd;exact⟨_,rfl⟩
    ·obtain⟨p,_,rfl⟩:=av.mp hd;show((p.map tupS).all (smp 7))=true;rw[dr,ba];intro t _;show((t.map D.str).all (smp 6))=true;rw[dr,ba];exact λ_ _=>rfl
    ·obtain⟨p,_,rfl⟩:=av.mp ha;obtain⟨O,_,rfl⟩:=av.mp Z;exact flE.okl 8 p O (by decide)
    ·obtain⟨p,_,rfl⟩:=av.mp ha;obtain⟨O,_,rfl⟩:=av.mp Z;rw[lte,lte];exact λh=>L.as h
    ·obtain⟨p,_,rfl⟩:=av.mp ha;obtain⟨O,_,rfl⟩:=av.mp Z;obtain⟨p'',_,rfl⟩:=av.mp hd;rw[lte,lte,lte];intro h1 h2;cases h:flE.lt p'' p with
     |false=>rfl
     |true =>
      by_cases e:O=p''
      ·subst e;rw[h] at h1;cases h1
      ·have:=L.tr h (L.tot h1 (bX (λz=>by subst z;rw[h] at h2;cases h2)))
       rw[this] at h2;cases h2
   refine⟨trivial,_,rfl,_,_,rfl,rfl,sok,by rw[ae];lia,λout pm pw=>?_⟩
   have eo:out=r.map flE.e:=by
    refine pm.eq_of_pairwise (λa b ha Z h1 h2=>?_) pw (bu.mpr (be (λ{p q} G hq h=>?_) (gXo c)))
    ·obtain⟨p,_,rfl⟩:=av.mp (pm.mem_iff.mp ha);obtain⟨O,_,rfl⟩:=av.mp Z;rw[lte] at h1 h2
     by_cases e:p=O
     ·rw[e]
     ·rw[L.tot h2 (λz=>e z)] at h1;cases h1
    ·rw[lte];refine L.as ?_;show lexG setE.lt p q=true;rw[cZl];exact h
   subst eo;have okk:okE 9 (.lst (r.map flE.e)) (.lst (r.map flE.e))=true:=by
    have:=(tupE flE).ok 9 r r (by decide)
    exact this
   refine⟨okk,?_⟩;have e7:rtD Q (.bl (decide (D.lst (r.map flE.e)=.lst (r.map flE.e)))) S1:=by rw[decide_eq_true rfl];exact aQ7 q
   exact e7
end
abbrev s_law_count_right:Stmt:=top 34
theorem sc_law_count_right:FnScope ["sets", "parts", "bound"] ["sets", "parts"] (aQ5 s_law_count_right):=fsc
def eJf(pt:Addr):SpD:=λds S Q=>∃(ts:List (List Str)) (r:List (List (List Str))),ds=[.tup (ts.map tupS),.tup (r.map flE.e)]/\S pt=some (.tb lpos (lamQual "first_of_longest"))/\CollB 9 ts/\FW ts r/\Q (.bl true) S
section
variable{P:aA}{w:aO}{K:ar}{mg:Str->Option ad}{base:bd}{pt cc:Addr}
theorem aJi(T:Tx K mg "_law_count_right" s_law_count_right)(B:Bs mg)(d_bound_below:Df P w K mg base 39 "bound_below" ["sets"] (spU K aZ8))(d_core_of:Df P w K mg base 39 "core_of" ["some"] (spU K aZg))(d_greatest_flower:Df P w K mg base 39 "greatest_flower" ["sets"] (spU K (dJr pt))):Df P w K mg base 40 "_law_count_right" ["sets", "parts"] (spU K (eJf pt)):=by
 refine aZ1 T sc_law_count_right (λF=>F.binds λ_ _ _ _ _ _=>us2 λ_ _=>rfl) ?_ λf cdv A outer s H E G=>⟨_,(aQ2 (aQb (i:=2) sc_law_count_right.nd rfl (aS rfl) (aQ3 d_bound_below G rfl (aQ0 (dv 0) aQ1)))
  (aQ2 (aQz (aXt (cZe (dv 2) (aQs rfl B.len (aQ0 (dv 1) aQ1)) (cQ3 (aQr (k:=false) (aQs rfl B.len (aQ0 (dv 0) aQ1)) aQ6) aQ6))) (aQ4 (aQ8 e_bl)) aQh)
  (aQ2 (aQz (PWD.pt (cQ8 (eQx G (aQs rfl B.len (aQ0 (dv 0) aQ1)) aQ6) (bZ1 (cJz G (e_eq G (aQs rfl B.len (aQ0 (dv 1) aQ1)) aQ6) (dZy G (aQ3 d_core_of G rfl (aQ0 (dv 0) aQ1)) aX6))))) (aQ4 (aQ8 e_bl)) aQh)
  (aQ4 (aQ8 (e_or (e_lt G (aQs rfl B.len (aQ0 (dv 0) aQ1)) aQ6) (dZz (e_eq G (e_eq G (aQs rfl B.len (aQ0 (dv 1) aQ1)) aQ6) (e_eq G (aQ3 d_greatest_flower G rfl (aQ0 (dv 0) aQ1)) (dv 0)))))))))),?_⟩
 ·rintro ds S Q ⟨ts,r,rfl,_⟩;rfl
 ·rintro ds S Q ⟨ts,r,rfl,hP,L,w,q⟩;have hs:=L.srt;have het:=λt j=>(L.each t j).1;have hl:=L.len;have J:=λt j=>(L.each t j).2;refine⟨ts,rfl,hs,by lia,λt j=>⟨het t j,by have:=J t j;lia⟩,λb M=>?_⟩
  have h1:=cJ3 hs het M w.cp;have h2:=cJb hs het w;refine⟨_,rfl,true,congrArg D.bl (decide_eq_true (by rw[ae];lia)),_,rfl,⟨by decide,by decide⟩,true,congrArg D.bl (decide_eq_true (by rw[ae,ae];lia)),?_⟩
  by_cases Z:2<=ts.length
  ·have one:=fXs hs het Z w;have g1:decide (((ts.map tupS).length:Int)>1)=true:=decide_eq_true (by rw[ae];lia)
   have g2:decide (((ts.map tupS).length:Int)<2)=false:=decide_eq_false (by rw[ae];lia)
   have O:decide (D.int ((r.map flE.e).length)=.int 1)=(coG ts).isSome:=by
    rw[ae];cases hc:(coG ts).isSome with
    |true=>exact decide_eq_true (by rw[one.mpr hc];rfl)
    |false =>
     refine decide_eq_false λz=>?_;injection z with z
     have:=one.mp (Int.ofNat.inj z)
     rw[hc] at this;cases this
   refine⟨_,rfl,_,rfl,?_⟩;rw[g1];refine⟨_,rfl,rfl,ts,rfl,by lia,λt j=>by have:=J t j;lia,aH (bXd hl J) (by decide),?_⟩
   have e2:(if true=true then !cZ8 (opD (coG ts)) else cZ8 (opD (coG ts)))=(coG ts).isSome:=by cases coG ts <;> rfl
   have fin:∀(out:List (List Str)),SrtT out->(∀t,t∈out↔t∈mets ts)->eqD false (grt ts out) (.tup (ts.map tupS)) S λy S2=>eqD false (.bl (decide (D.int ((r.map flE.e).length)=.int 1))) y S2 λd S3=>rtD Q d S3:=λout os U=>by
    cases out with
    |nil =>
     have:=iK.mpr λx hx=>by cases (U x).mpr hx
     have:=cJ9 this
     lia
    |cons c cs =>
     have g:=dJm (out:=c::cs) hs het U;have e4:decide (rowD ts (bst (lbs ts c) (cs.map (lbs ts)))=.tup (ts.map tupS))=(coG ts).isSome:=by
      have Y:(rowD ts (bst (lbs ts c) (cs.map (lbs ts)))=.tup (ts.map tupS))↔(coG ts).isSome=true:=by
       rw[<- fXt g];constructor
       ·intro z;injection z with z;exact map_inj tupS_inj z
       ·intro z;show D.tup _=_;rw[z]
      cases hc:(coG ts).isSome with
      |true=>exact decide_eq_true (Y.mpr hc)
      |false=>exact decide_eq_false λz=>by have:=Y.mp z;rw[hc] at this;cases this
     refine⟨flE.ok 9 _ ts (by decide),rfl,?_⟩
     have e6:decide (D.bl (decide (D.int ((r.map flE.e).length)=.int 1))=D.bl (decide (rowD ts (bst (lbs ts c) (cs.map (lbs ts)))=.tup (ts.map tupS))))=true:=decide_eq_true (by rw[O,e4])
     have e7:rtD Q (.bl (decide (D.bl (decide (D.int ((r.map flE.e).length)=.int 1))=D.bl (decide (rowD ts (bst (lbs ts c) (cs.map (lbs ts)))=.tup (ts.map tupS)))))) S:=by rw[e6];exact aQ7 q
     exact e7
   rcases N:coG ts with _|d
   all_goals
    rw[N] at O;refine⟨rfl,false,eZm (congrArg D.bl O),?_⟩;refine⟨_,rfl,_,rfl,ite2 (λc=>by rw[g2] at c;cases c) λ_=>?_⟩
    exact⟨_,rfl,rfl,ts,rfl,hP,hs,by lia,by lia,λt j=>⟨het t j,by have:=J t j;lia⟩,fin⟩
  ·have g1:decide (((ts.map tupS).length:Int)>1)=false:=decide_eq_false (by rw[ae];lia)
   have g2:decide (((ts.map tupS).length:Int)<2)=true:=decide_eq_true (by rw[ae];lia)
   refine⟨_,rfl,_,rfl,?_⟩;rw[g1];exact⟨_,rfl,_,rfl,ite2 (λ_=>aQ7 q) λc=>absurd g2 c⟩
end
end Toy
namespace L2
open PySem PySem.Spec PyProof.Rows
def getG{β:Type}(kvs:List (Key×β))(key:Key):Option β:=(kvs.find? λkv=>decide (kv.1=key)).map (·.2)
section
variable{X:Cx}{K:Fg}{k:Nat}{pos:Pos}{o i:Expr}{td ty:ED}
theorem eX4(l:bc (λp q=>p.1=q.1/\RepV K M H q.2 p.2) ks kvs)(h:getG kvs key=some d):∃v,valV ks key=some v/\RepV K M H d v:=by
 induction l with
 |nil=>cases h
 |@cons a b as bs j _ G =>
  by_cases e:b.1=key
  ·have:getG (b::bs) key=some b.2:=by unfold getG;rw[du,decide_eq_true e];rfl
   rw[this] at h;injection h with h
   subst h;exact⟨a.2,bQe (j.1.trans e),j.2⟩
  ·have:getG (b::bs) key=getG bs key:=by unfold getG;rw[du,decide_eq_false e]
   rw[this] at h;obtain⟨v,J,B⟩:=G h;refine⟨v,?_,B⟩;rw[<- J];have L:a.1≠key:=λz=>e (j.1▸z);simp[valV,du,L]
def dDGet(td ty:ED):ED:=fun Γ S Q=>td Γ S λo S1=>ty Γ S1 λy S2=>match o with
 |.ref a=>∃kvs key d,S2 a=some (.dk kvs)/\dkey y=some key/\getG kvs key=some d/\Q d S2
 |_=>False
theorem gXv(hr:Room k X.A)(ho:PD K X o td)(hi:PD K X i ty)(hs:NoSl i:=by intro _ _;rfl):PD K X (.Subscript o i pos) (dDGet td ty):=.of (fZh (lt10 hr) ho.o hi.o hs) fun σ H Q G=>G.el λF S Γ QD r g q c =>
 ⟨F,S,Γ,_,r,g,q,λx od H2 S2 B N v2 O=>⟨F,S2,Γ,_,N,g.ext B,O,λy yd H3 S3 z D J j=>by
  cases od with
  |ref a =>
   obtain⟨Y,key,d,hS,hk,hg,j⟩:=j;obtain⟨Z,hu,U⟩:=D.obj a _ hS;obtain⟨v,hv,L⟩:=eX4 U hg;refine⟨a,v,rref (v2.ext z),.inl ⟨Z,key,.inl hu,cXl J hk,hv.symm⟩,c v d H3 S3 (B.trans z) D L j⟩
  |_=>exact j.elim⟩⟩
end
end L2
namespace L2
open PySem Toy
abbrev zipK(ns ms:List Str):List (Key×D):=(ns.map (gL:Str->Key)).zip (ms.map D.str)
theorem eQ0:∀(ns ms:List Str) (n:Str),ms.length=ns.length->n∈ns->getG (zipK ns ms) (.inr n)=some (.str (tr ns ms n))
 |[],_,n,_,h=>by cases h
 |x::ns,[],n,h,_=>by cases h
 |x::ns,m::ms,n,h,B=>by
  by_cases e:x=n
  ·subst e;unfold tr getG zipK;simp
  ·have d:n∈ns:=by
    rcases aw.mp B with z|z
    ·exact absurd z.symm e
    ·exact z
   have:=eQ0 ns ms n (by simpa using h) d
   have J:getG (zipK (x::ns) (m::ms)) (.inr n)=getG (zipK ns ms) (.inr n):=by
    have L:¬ ((gL x:Key)=.inr n):=λz=>e (gL.inj z);show((List.find? (λj:Key×D=>decide (j.1=.inr n)) ((gL x,D.str m)::zipK ns ms)).map (·.2))=_;rw[du,decide_eq_false L];rfl
   have G:tr (x::ns) (m::ms) n=tr ns ms n:=by
    unfold tr;rw[List.idxOf_cons]
    have:(x==n)=false:=by simpa using e
    rw[this];rfl
   rw[J,G,this]
theorem fXz(h:ms.length=ns.length)(hn:n∉ns):putG (zipK ns ms) (.inr n) (.str m)=zipK (ns++[n]) (ms++[m]):=by
 have:¬ ((zipK ns ms).any λd=>decide (d.1=(.inr n)))=true:=λz=>by
  obtain⟨d,h1,h2⟩:=List.any_eq_true.mp z;have j:=(iX h1).1;rw[of_decide_eq_true h2] at j;obtain⟨y,B,e⟩:=av.mp j;exact hn (gL.inj e▸B)
 unfold putG;rw[if_neg this];unfold zipK;rw[bo,bo,List.zip_append (by rw[ae,ae,h])]
 rfl
theorem gXw{α β:Type}(f:α->β):∀(l:List α) (k:Nat),(l.map f).eraseIdx k=(l.eraseIdx k).map f
 |[],k=>by simp
 |x::l,0=>rfl
 |x::l,k+1=>by
  show f x::(l.map f).eraseIdx k=f x::(l.eraseIdx k).map f;rw[gXw f l k]
theorem eQ1{α:Type}:∀(l:List α) (k:Nat) (h:k<l.length),(l[k]::l.eraseIdx k).Perm l
 |[],k,h=>by cases h
 |x::l,0,_=>.refl _
 |x::l,k+1,h=>(kT x (l[k]'(Nat.lt_of_succ_lt_succ h)) (l.eraseIdx k)).trans ((eQ1 l k (Nat.lt_of_succ_lt_succ h)).cons x)
theorem gXx{α:Type}(f:α->D)(xs:List α)(k:Nat):cutD (xs.map f) none (some k)=(xs.take k).map f:=by
 rw[aJb,HT.sIx_none,HT.sIx_nat,kP,Nat.sub_zero]
 congr 1
 rcases Nat.le_total k xs.length with h|h
 ·rw[eV h]
 ·rw[Nat.min_eq_right h,cA (am _),cA h]
theorem eX5{α:Type}(f:α->D)(xs:List α)(k:Nat):cutD (xs.map f) (some k) none=(xs.drop k).map f:=by
 rw[aJb,HT.sIx_none,HT.sIx_nat]
 congr 1
 rcases Nat.le_total k xs.length with h|h
 ·rw[eV h,cA (by rw[bQ];exact am _)]
 ·rw[Nat.min_eq_right h,List.drop_of_length_le (am _),List.drop_of_length_le h,List.take_nil]
end L2
namespace Toy
open PySem L2
abbrev s_law_renamed:Stmt:=top 32
theorem sc_law_renamed:FnScope ["pile", "sets", "held", "one", "left", "turned", "name"] ["pile", "sets"] (aQ5 s_law_renamed):=fsc
structure Ren(ts us:List (List Str)):Prop where
 srt:SrtT us
 each:∀u∈us,Srt u/\u.length<=6
 len:us.length<=14
 same:(∀r r',FW ts r->FW us r'->r'.length=r.length)/\∀b b',MfS ts (flO ts 3) (-1) b->MfS us (flO us 3) (-1) b'->b'.length=b.length
def aXv:SpD:=λds S Q=>∃(a:Addr) (ts:List (List Str)),ds=[.ref a,.tup (ts.map tupS)]/\Pile S a/\CollB 9 ts/\∀us S',Ren ts us->Off a S S'->Pile S' a->Q (.tup (us.map tupS)) S'
section
variable{P:aA}{w:aO}{K:ar}{mg:Str->Option ad}{base:bd}{pt cc:Addr}
theorem bZx(T:Tx K mg "_law_renamed" s_law_renamed)(B:Bs mg)(d_law_next:Df P w K mg base 1 "_law_next" ["pile", "most"] (spU K aQu)):Df P w K mg base 2 "_law_renamed" ["pile", "sets"] (spU K aXv):=by
 refine aZ1 T sc_law_renamed (λF=>F.binds λ_ _ _ _ _ _=>us2 λ_ _=>rfl) ?_ λf cdv A outer s H E hr=>⟨_,(aQ2 (aQb (i:=2) sc_law_renamed.nd rfl (aS rfl) (aX7 (b:=true) aQ1))
  (aQ2 (aX9 cS rfl (aQv (dv 1)) (aZ5 (i:=3) sc_law_renamed.nd rfl (aS rfl)) (aQ4 (bZ2 (dXu (dv 2) (aQ0 (dv 3) aQ1)))))
  (aQ2 (aQb (i:=4) sc_law_renamed.nd rfl (aS rfl) (dXs (b:=true) rfl B.list (aQ0 aXy aQ1)))
  (aQ2 (aQb (i:=5) sc_law_renamed.nd rfl (fQ rfl) gZq)
  (aQ2 (aX9 cS rfl (aQv (cQd (b:=false) hr rfl B.sorted rfl B.set (dv 2))) (aZ5 (i:=6) sc_law_renamed.nd rfl (aS rfl)) (aQ4 (fZk hr (dv 5) (dv 6) (aQr (k:=false) aXy (cZc (dv 4) (aQ0 (aQ3 d_law_next hr rfl (aQ0 (dv 0) (aQ0 (aQs rfl B.len (aQ0 (dv 4) aQ1)) aQ1))) aQ1))))))
  (aQ4 (aQ8 (aZ3 rfl B.tuple (aQ0 (aZ7 (b:=false) hr rfl B.sorted (aQ0 (aQq (N':=["one", "turned"]) (oc:=none) (b:=false) [0] [] rfl sc_law_renamed.nd (λ_ _ _=>aQc ..) (.own (.cap (i:=5) rfl (by decide +kernel) .nil)) (aQf rfl) (aQv (dv 1)) (cg_name (i:=0)) (λ_ _ _ _ _=>aQa (i:=0) (nd_ ["one", "turned"]) rfl (aS rfl) (.inr rfl)) (λ_ _ _ _ _=>aQk) aQi (λ_ _ _ _ _ _=>aQg rfl (by exact PD.o (aZ3 rfl B.tuple (aQ0 (aZ7 (b:=false) hr rfl B.sorted (aQ0 (aQq (N':=["name", "turned"]) (oc:=none) (b:=false) [0] [] rfl (nd_ ["one", "turned"]) (λ_ _ _=>aQc ..) (.own (.cap (i:=1) rfl (by decide +kernel) .nil)) (aQf rfl) (aQv (dv 0)) (cg_name (i:=0)) (λ_ _ _ _ _=>aQa (i:=0) (nd_ ["name", "turned"]) rfl (aS rfl) (.inr rfl)) (λ_ _ _ _ _=>aQk) aQi (λ_ _ _ _ _ _=>aQg rfl (by exact PD.o (gXv hr (dv 1) (dv 0))))) aQ1)) aQ1))))) aQ1)) aQ1))))))))),?_⟩
 ·rintro ds S Q ⟨a,ts,rfl,_⟩;rfl
 ·rintro ds S Q ⟨a,ts,rfl,dk,hC,q⟩;have hs:=hC.srt;have het:∀t∈ts,Srt t:=λt G=>(hC.each t G).1;have hl:=hC.len;have l6:∀t∈ts,t.length<=6:=λt G=>(hC.each t G).2;have fl:∀l:List (List Str),(∀t∈l,t.length<=6)->l.flatten.length<=6*l.length:=λl=>by
   induction l with
   |nil=>intro _;exact am _
   |cons t l ih =>
    intro h;have h1:=h t aj;have h2:=ih λu hu=>h u (ak _ hu);rw[c6,ax,aG];omega
  refine⟨aQd (by decide),λhp hhp=>?_⟩
  have hha:hp≠a:=dk.ne hhp;refine⟨_,rfl,aZk (λi Γ S'=>∃x3:Option D,Γ=[some (.ref a),some (.tup (ts.map tupS)),some (.ref hp),x3,none,none,none]/\S' hp=some (.lst ((ts.take i).flatten.map D.str))/\Pile S' a/\∀b,b≠hp->S' b=S b) ⟨none,rfl,supd_same,dk.supd hha,λb hb=>supd_ne hb⟩ ?_ ?_⟩
  ·rintro i x Γ S1 N z ⟨x3,rfl,hf,Y,J⟩ hN;rw[aY,bO] at z;obtain⟨t,z,rfl⟩:=z;have e1:(ts.take (i+1)).flatten=(ts.take i).flatten++t:=by rw[cM,z,gB];simp
   have b1:=fl (ts.take i) λu hu=>l6 u (gj hu);have b2:=l6 t (bS z);rw[a7] at b1;refine⟨trivial,⟨_,hf⟩,_,hf,aQd (by rw[ae,ae];omega),hN _ _ ⟨_,rfl,?_,Y.supd hha,λb hb=>(supd_ne hb).trans (J b hb)⟩⟩
   rw[supd_same,e1,bo]
  rintro Γ S1 ⟨x3,rfl,hf,Y,J⟩;rw[ae,dF] at hf;have nd0:((aL "abcdefghijklmnop").cps.toList.map λc=>(⟨#[c]⟩:Str)).Nodup:=by decide +kernel
  have len0:((aL "abcdefghijklmnop").cps.toList.map λc=>(⟨#[c]⟩:Str)).length=16:=by decide +kernel
  have e0:((aL "abcdefghijklmnop").cps.toList.map λc=>D.str ⟨#[c]⟩)=((aL "abcdefghijklmnop").cps.toList.map λc=>(⟨#[c]⟩:Str)).map D.str:=by rw[bi];rfl
  have l10:∀x∈((aL "abcdefghijklmnop").cps.toList.map λc=>(⟨#[c]⟩:Str)),x.length=1:=by decide +kernel
  have inj0:∀x∈((aL "abcdefghijklmnop").cps.toList.map λc=>(⟨#[c]⟩:Str)),∀y∈((aL "abcdefghijklmnop").cps.toList.map λc=>(⟨#[c]⟩:Str)),aL "q"++x=aL "q"++y->x=y:=by decide +kernel
  refine⟨trivial,by decide,?_⟩
  show newL true ((aL "abcdefghijklmnop").cps.toList.map λc=>D.str ⟨#[c]⟩) S1 _;rw[e0];generalize ((aL "abcdefghijklmnop").cps.toList.map λc=>(⟨#[c]⟩:Str))=ls0 at nd0 len0 l10 inj0;intro lp hlp;intro tp htp;have hla:lp≠a:=Y.ne hlp;have hlh:lp≠hp:=by rintro rfl;rw[hf] at hlp;cases hlp
  have htl:tp≠lp:=by rintro rfl;rw[supd_same] at htp;cases htp
  have htS1:S1 tp=none:=by rw[supd_ne htl] at htp;exact htp
  have hta:tp≠a:=Y.ne htS1;have hth:tp≠hp:=by rintro rfl;rw[hf] at htS1;cases htS1
  have fb:=fl ts l6;refine⟨ts.flatten,by show supd _ _ _ _=_;rw[supd_ne (bX hth),supd_ne (bX hlh)];exact hf,by omega,λout ond om=>?_,λns Z nm nsrt=>?_⟩
  ·have:=ond.length_le_of_subset λx z=>(om x).mp z
   omega
  have nl:=aH (Z.length_le_of_subset λx z=>mem_nms.mpr (de.mp ((nm x).mp z))) hC.nms;refine⟨_,rfl,aZk (λi Γ S'=>∃ (x6:Option D) (ms us:List Str),Γ=[some (.ref a),some (.tup (ts.map tupS)),some (.ref hp),x3,some (.ref lp),some (.ref tp),x6]/\S' lp=some (.lst (us.map D.str))/\S' tp=some (.dk (zipK (ns.take i) (ms.map λm=>aL "q"++m)))/\(ms++us).Perm ls0/\ms.length=i/\Pile S' a/\∀ b,b≠a->b≠hp->b≠lp->b≠tp->S' b=S b)
   ⟨none,[],ls0,rfl,by rw[supd_ne (bX htl),supd_same],supd_same,.refl _,rfl,(Y.supd hla).supd hta,λb h1 h2 h3 h4=>by rw[supd_ne h4,supd_ne h3,J b h2]⟩ ?_ ?_⟩
  ·rintro i x Γ S2 N z ⟨x6,ms,us,rfl,hl2,L,pm,ml,dk2,U⟩ hN;rw[aY,bO] at z;obtain⟨n,z,rfl⟩:=z;have hi:=(a9.mp z).1;have ul:=pm.length_eq;rw[ax,len0,ml] at ul;refine⟨trivial,⟨_,hl2⟩,_,hl2,a,us.length,by rw[ae],dk2,by lia,by lia,λk S3 k0 k1 O dk3=>?_⟩
   obtain⟨j,rfl⟩:∃j:Nat,k=j:=⟨k.toNat,by lia⟩
   have hj:j<us.length:=by lia
   have hl3:=(O lp hla).trans hl2;have ht3:=(O tp hta).trans L;have uin:=pm.mem_iff.mp (bq _ (db hj));have hni:=λh=>by
    have:=Z
    rw[<- b7 i ns] at this;have hd:n∈ns.drop i:=by
     rw[cu hi]
     have:=(a9.mp z).2
     rw[this];exact aj
    exact(bY.mp this).2.2 n h n hd rfl
   refine⟨us.map D.str,j,.str us[j],hl3,rfl,by lia,by rw[aY,ah hj];rfl,aQd (by rw[l10 _ uin];decide),_,.inr n,(supd_ne htl).trans ht3,rfl,?_,hN _ _ ⟨_,ms++[us[j]],us.eraseIdx j,rfl,?_,?_,?_,?_,(dk3.supd hla).supd hta,λb h1 h2 h3 h4=>by rw[supd_ne h4,supd_ne h3,O b h1,U b h1 h2 h3 h4]⟩⟩
   ·rw[List.length_zip,ae,a7,aZ];lia
   ·rw[supd_ne (bX htl),supd_same,gXw]
   ·rw[supd_same,fXz (by rw[ae,a7];lia) hni,cM,z,bo]
    rfl
   ·rw[cL];exact(ix _ (eQ1 us j hj)).trans pm
   ·rw[ax,ml];rfl
  rintro Γ S2 ⟨x6,ms,us,rfl,hl2,L,pm,ml,dk2,U⟩;rw[ae] at ml L;rw[dF] at L;have ndm:=(bY.mp (pm.nodup_iff.mpr nd0)).1;have hq:(ms.map λm=>aL "q"++m).length=ns.length:=by rw[ae,ml]
  have nq:(ms.map λm=>aL "q"++m).Nodup:=bu.mpr (be (λ{x y} z hy n e=>n (inj0 x (pm.mem_iff.mp (cm _ z)) y (pm.mem_iff.mp (cm _ hy)) e)) ndm);generalize (ms.map λm=>aL "q"++m)=d at hq nq L;have inN:=λt G n hn=>(nm n).mpr (de.mpr ⟨t,G,hn⟩);refine⟨trivial,_,rfl,aQn (f:=λt=>tupS (cl ns d t)) (λt G Q q=>?_) (aQd (by show 0+ts.length<=9999;lia)) ?_⟩
  ·have t6:=l6 t G;refine⟨_,rfl,aQn (λn hn Q q=>⟨_,_,_,L,rfl,eQ0 ns d n hq (inN t G n hn),q⟩) (aQd (by show 0+t.length<=9999;lia)) ?_⟩
   rw[c9];have e1:t.map (λn=>D.str (tr ns d n))=(t.map (tr ns d)).map D.str:=by rw[bi];rfl
   rw[e1];exact .inl ⟨t.map (tr ns d),rfl,by rw[ae];lia,_,rfl,q⟩
  rw[c9];have e1:ts.map (λt=>tupS (cl ns d t))=(ts.map (cl ns d)).map tupS:=by rw[bi];rfl
  rw[e1];have bk:=λt G=>aJx hq Z nq (het t G) (inN t G);have ndc:(ts.map (cl ns d)).Nodup:=bu.mpr (be (λ{x y} z hy n e=>n (by rw[<- bk x z,e,bk y hy])) hs.nodup)
  have um:∀u,u∈srT (ts.map (cl ns d))↔∃t∈ts,cl ns d t=u:=λu=>by rw[cZk,av]
  have ren:Ren ts (srT (ts.map (cl ns d))):=by
   refine⟨bJ8 ndc,λu hu=>?_,by rw[(aXp _).length_eq,ae];lia,fXv hq Z nq hs (λt G=>⟨het t G,inN t G⟩) (bJ8 ndc) um⟩
   obtain⟨t,G,rfl⟩:=(um u).mp hu;refine⟨bZj hq nq (het t G).nodup (inN t G),?_⟩;unfold cl;rw[(aZr _).length_eq,ae];exact l6 t G
  have kp:=λb o e=>by
   have e:(if b=a then S2 b else S b)=some o:=e
   by_cases hc:b=a
   ·rw[if_pos hc] at e;exact e
   ·rw[if_neg hc] at e;have n1:b≠hp:=by rintro rfl;rw[hhp] at e;cases e
    rw[U b hc n1 (by rintro rfl;rw[J _ n1,e] at hlp;cases hlp) (by rintro rfl;rw[J _ n1,e] at htS1;cases htS1)]
    exact e
  refine .inr (.inr ⟨ts.map (cl ns d),rfl,ndc,by rw[ae];lia,_,rfl,aJ2 kp (q _ _ ren (λb hb=>if_neg hb) (dk2.eq (if_pos rfl)))⟩)
end
abbrev bJl:Stmt:=top 35
theorem sc_law:FnScope ["script", "pile", "turn", "sets", "parts", "other", "at", "fewer"] ["script"] (aQ5 bJl):=fsc
section
variable{P:aA}{w:aO}{K:ar}{mg:Str->Option ad}{base:bd}{pt cc:Addr}
theorem gXy{f:Addr}{fd:dz}(Fn:Fun K "law" "law" bJl f fd)(B:Bs mg)(d_law_pile:Df P w K mg base 49 "_law_pile" ["script"] (spU K bZ8))(d_law_next:Df P w K mg base 49 "_law_next" ["pile", "most"] (spU K aQu))(d_law_few_sets:Df P w K mg base 49 "_law_few_sets" ["pile", "most"] (spU K aXd))(d_fewest_parts:Df P w K mg base 49 "fewest_parts" ["sets"] (spU K aXf))(d_bound_below:Df P w K mg base 49 "bound_below" ["sets"] (spU K aZ8))(d_law_parts_right:Df P w K mg base 49 "_law_parts_right" ["sets", "parts"] (spU K (eJe pt)))(d_law_count_right:Df P w K mg base 49 "_law_count_right" ["sets", "parts"] (spU K (eJf pt)))(d_law_renamed:Df P w K mg base 49 "_law_renamed" ["pile", "sets"] (spU K aXv)):FnOk P w K mg base CX0 50 f fd ["script"] (spU K (cJe pt lpos (lamQual "first_of_longest") 63)):=by
 refine e_fn Fn sc_law ?_ λcdv A outer s H E z=>⟨_,(aQ2 (aQb (i:=1) sc_law.nd rfl (aS rfl) (aQ3 d_law_pile z rfl (aQ0 (dv 0) aQ1)))
  (aQ2 (aX9 cS rfl (aZi rfl B.range (aQ0 aQ6 aQ1)) (aZ5 (i:=2) sc_law.nd rfl (aS rfl)) (aQ2 (aQb (i:=3) sc_law.nd rfl (aS rfl) (aQ3 d_law_few_sets z rfl (aQ0 (dv 1) (aQ0 aQ6 aQ1))))
  (aQ2 (aQb (i:=4) sc_law.nd rfl (aS rfl) (aQ3 d_fewest_parts z rfl (aQ0 (dv 3) aQ1)))
  (aQ2 (aQz (PWD.pt (dX0 (aXt (aJ7 (aQ3 d_law_parts_right z rfl (aQ0 (dv 3) (aQ0 (dv 4) aQ1))))) (cQ7 (aXt (aJ7 (aQ3 d_law_count_right z rfl (aQ0 (dv 3) (aQ0 (dv 4) aQ1)))))))) (aQ4 (aQ8 e_bl)) aQh)
  (aQ2 (aQb (i:=5) sc_law.nd rfl (aS rfl) (aQ3 d_law_renamed z rfl (aQ0 (dv 1) (aQ0 (dv 3) aQ1))))
  (aQ2 (aQz (PWD.pt (dX0 (cJz z (aQs rfl B.len (aQ0 (aQ3 d_fewest_parts z rfl (aQ0 (dv 5) aQ1)) aQ1)) (aQs rfl B.len (aQ0 (dv 4) aQ1))) (cQ7 (cJz z (aQ3 d_bound_below z rfl (aQ0 (dv 5) aQ1)) (aQ3 d_bound_below z rfl (aQ0 (dv 3) aQ1)))))) (aQ4 (aQ8 e_bl)) aQh)
  (aQ4 (aQz (cJz z (dv 3) (bZq aQ1)) (aQ2 (aQb (i:=6) sc_law.nd rfl (aS rfl) (aQ3 d_law_next z rfl (aQ0 (dv 1) (aQ0 (aQs rfl B.len (aQ0 (dv 3) aQ1)) aQ1))))
  (aQ2 (aQb (i:=7) sc_law.nd rfl (aS rfl) (aQr (k:=false) (e_sl (b:=false) (dv 3) aZh (aZ4 (dv 6))) (e_sl (b:=false) (dv 3) (aZ4 (aQr (k:=false) (dv 6) aQ6)) aZh)))
  (aQ2 (aQz (aXt (cZe (dZr (aQs rfl B.len (aQ0 (dv 4) aQ1)) aQ6) (aQs rfl B.len (aQ0 (aQ3 d_fewest_parts z rfl (aQ0 (dv 7) aQ1)) aQ1)) (aQs rfl B.len (aQ0 (dv 4) aQ1)))) (aQ4 (aQ8 e_bl)) aQh)
  (aQ4 (aQz (aXt (cZe (dZr (aQ3 d_bound_below z rfl (aQ0 (dv 3) aQ1)) aQ6) (aQ3 d_bound_below z rfl (aQ0 (dv 7) aQ1)) (aQ3 d_bound_below z rfl (aQ0 (dv 3) aQ1)))) (aQ4 (aQ8 e_bl)) aQh))))) aQh))))))))
  (aQ4 (aQ8 e_bl)))),?_⟩
 ·rintro ds S Q ⟨ns,rfl,_⟩;rfl
 ·rintro ds S Q ⟨ns,rfl,h63,hP,hS,q⟩;refine⟨ns,rfl,h63,λa S1 ha off1 dk1=>⟨⟨by decide,by decide⟩,?_⟩⟩
  have hap:pt≠a:=by rintro rfl;rw[ha] at hP;cases hP
  have hP1:=(off1 pt hap).trans hP;refine aZk (λi Γ S'=>∃x2 x3 x4 x5 x6 x7:Option D,Γ=[some (.lst (ns.map D.int)),some (.ref a),x2,x3,x4,x5,x6,x7]/\Pile S' a/\Off a S1 S') ⟨none,none,none,none,none,none,rfl,dk1,λ_ _=>rfl⟩ ?_ ?_
  ·rintro i x Γ S2 N hx ⟨x2,x3,x4,x5,x6,x7,rfl,dk2,G⟩ hN;refine⟨trivial,a,9,rfl,dk2,by decide,λts S3 U L dk3=>?_⟩
   have hs:=U.srt;have het:=λt J=>(U.each t J).1;have hl:=U.len;have l6:=λt J=>(U.each t J).2;have hP3:=((G.trans L) pt hap).trans hP1;have Y:∀t∈ts,Srt t/\t.length<=12:=λt J=>⟨het t J,by have:=l6 t J;lia⟩
   refine⟨ts,rfl,hs,by lia,U.each,λr w=>?_⟩
   refine⟨ts,r,rfl,hP3,U,w,?_⟩;refine⟨ts,r,rfl,hP3,U,w,?_⟩;refine⟨a,ts,rfl,dk3,U,λus S4 d Z dk4=>?_⟩;refine⟨us,rfl,d.srt,d.len,d.each,λr' w'=>⟨_,rfl,_,rfl,rfl,false,eZm (by rw[ae,ae,d.same.1 r r' w w']),?_⟩⟩
   refine⟨us,rfl,d.srt,d.len,λt J=>⟨(d.each t J).1,by have:=(d.each t J).2;lia⟩,λb' M'=>⟨ts,rfl,hs,by lia,Y,λb M=>⟨rfl,false,eZm (by rw[d.same.2 b b' M M']),?_⟩⟩⟩
   refine⟨aQd (by decide),flE.ok 9 ts [] (by decide),_,rfl,ite2 (λc=>?_) λ_=>hN _ _ ⟨_,_,_,_,_,_,rfl,dk4,(G.trans L).trans Z⟩⟩
   have hne:ts≠[]:=by rintro rfl;simp at c
   have h0:=fx.mpr hne;refine⟨_,rfl,a,ts.length,by rw[ae],dk4,by lia,by lia,λk S5 k0 k1 off5 dk5=>?_⟩
   obtain⟨j,rfl⟩:∃j:Nat,k=j:=⟨k.toNat,by lia⟩
   have hj:j<ts.length:=by lia
   have ec:cutD (ts.map tupS) none (some j)++cutD (ts.map tupS) (some (j+1)) none=(ts.eraseIdx j).map tupS:=by
    rw[gXx,show((j:Int)+1)=((j+1:Nat)) from rfl,eX5,<- bo,iu]
   have sub:(ts.eraseIdx j).Sublist ts:=List.eraseIdx_sublist ..;have O:=hs.sublist sub;have pm:=eQ1 ts j hj;have hn:=(bA.mp (pm.nodup_iff.mpr hs.nodup)).1;have hm:∀t,t∈ts↔t∈ts.eraseIdx j\/t=ts[j]:=λt=>by rw[<- pm.mem_iff,aw];exact or_comm
   have hl':=sub.length_le;refine⟨j,rfl,j+1,rfl,?_,?_⟩
   ·have:=congrArg eY ec
    rw[ax,ae] at this;rw[this];exact aQd (by lia)
   rw[ec];refine⟨_,rfl,ts.eraseIdx j,rfl,O,by lia,λt J=>U.each t (sub.subset J),λr2 w2=>?_⟩
   obtain⟨f1,f2⟩:=eZu O hs het hm hn w2 w;refine⟨_,rfl,true,congrArg D.bl (decide_eq_true (by rw[ae,ae];lia)),_,rfl,true,congrArg D.bl (decide_eq_true (by rw[ae,ae];lia)),?_⟩
   refine⟨ts,rfl,hs,by lia,Y,λc1 M1=>⟨ts.eraseIdx j,rfl,O,by lia,λt J=>Y t (sub.subset J),λc2 M2=>?_⟩⟩
   obtain⟨g1,g2⟩:=eX2 O hs hm hn M2 M1;refine⟨true,congrArg D.bl (decide_eq_true (by lia)),ts,rfl,hs,by lia,Y,λc3 M3=>⟨true,congrArg D.bl (decide_eq_true ?_),hN _ _ ⟨_,_,_,_,_,_,rfl,dk5,((G.trans L).trans Z).trans off5⟩⟩⟩
   have:=M3.most _ M1.sub M1.free
   have:=M1.most _ M3.sub M3.free
   lia
  ·rintro Γ S' ⟨x2,x3,x4,x5,x6,x7,rfl,dk2,G⟩;exact⟨trivial,aQ7 (q _)⟩
end
end Toy
set_option maxHeartbeats 4000000
namespace Toy
open PySem L2
theorem fin{l:PySem.W.OpenLaw}(X:K.In h)(G:h.Ns aX mg)(hfa:mg "law"=some (.ref fa))(B:Bs mg){cc pt:Addr}(CD:cQm K mg "first_of_longest" cc)(AB:mg "abs"=none)
  (T1:Tx K mg "has_all" s_has_all) (T2:Tx K mg "meets" s_meets) (T3:Tx K mg "meet_of" s_meet_of) (T4:Tx K mg "without_names" s_without_names) (T5:Tx K mg "choices_of" s_choices_of) (T6:Tx K mg "core_of" s_core_of) (T7:Tx K mg "names_of_all" s_names_of_all) (T8:Tx K mg "flower_shown" s_flower_shown) (T9:Tx K mg "greatest_flower" s_greatest_flower) (T10:Tx K mg "first_of_longest" s_first_of_longest) (T11:Tx K mg "flowers_of" s_flowers_of) (T12:Tx K mg "cores_of_two" s_cores_of_two) (T13:Tx K mg "most_beside" s_most_beside) (T14:Tx K mg "most_free" s_most_free) (T15:Tx K mg "most_free_with" s_most_free_with) (T16:Tx K mg "fewest_parts" s_fewest_parts) (T17:Tx K mg "parting_of" s_parting_of) (T18:Tx K mg "parts_from" s_parts_from) (T19:Tx K mg "is_part" s_is_part) (T20:Tx K mg "parting_shown" s_parting_shown) (T21:Tx K mg "bound_below" s_bound_below) (T22:Tx K mg "_law_pile" s_law_pile) (T23:Tx K mg "_law_next" s_law_next) (T24:Tx K mg "_law_names" s_law_names) (T25:Tx K mg "_law_set" s_law_set) (T26:Tx K mg "_law_collection" s_law_collection) (T27:Tx K mg "_law_few_sets" s_law_few_sets) (T28:Tx K mg "_law_renamed" s_law_renamed) (T29:Tx K mg "_law_parts_right" s_law_parts_right) (T30:Tx K mg "_law_count_right" s_law_count_right)
  {od3 an3:Option Addr}{sl3:Array (Option ad)}{oc3 kV3 dc3 pm3 cd3 ct3:ad}
  (a3:bT K aX "law"=some (some (.ref f3))) (l3:K.lookup f3=some ⟨oc3,od3,.func (eZ "law" "law" (aXw bJl) (aZb bJl) (aQ5 bJl) .none kV3 dc3 pm3 an3 cd3 ct3),sl3⟩) (c3:g8 K cd3 "law"=true) (k3:gg K (.ref f3)=true) :
  ∃fd:dz,(∀(s:ai) (v:ad),BindsTo s fd ⟨[v],[]⟩ [("script",v)])/\∀base:bd,K.In base->base.Ns aX mg->TabF base mg cc pt->FnOk l.prog w K mg base CX0 50 fa fd ["script"] (spU K (cJe pt lpos (lamQual "first_of_longest") 63)):=by
 have e:=hfa.symm.trans (k8 X G a3);cases e;refine⟨eZ "law" "law" (aXw bJl) (aZb bJl) (aQ5 bJl) .none kV3 dc3 pm3 an3 cd3 ct3,λs v=>.of_eq rfl,λbase XB GB TF=>?_⟩;have F3:=eXc l3 c3 k3;have d_law_pile:=cZi (P:=l.prog) (w:=w) (base:=base) T22 B;have d:=cZj (P:=l.prog) (w:=w) (base:=base) T23 B AB;have d_law_names:=cQi T24 B (d.mono (by decide))
 have d_law_set:=dQ4 T25 B (d.mono (by decide))
 have Z:=aJt T26 B (d.mono (by decide)) (d_law_set.mono (by decide))
 have d_law_few_sets:=bZa T27 B (d.mono (by decide)) (d_law_names.mono (by decide)) (d_law_set.mono (by decide)) (Z.mono (by decide))
 have j:=bQ6 (P:=l.prog) (w:=w) (base:=base) T4 B;have d_meets:=eZn (P:=l.prog) (w:=w) (base:=base) T2 B;have Y:=cQk T14 B T15 (j.mono (by decide)) (d_meets.mono (by decide))
 have L:=bJa (P:=l.prog) (w:=w) (base:=base) T5 B;have d_names_of_all:=bZc (P:=l.prog) (w:=w) (base:=base) T7 B;have D:=dQ7 T6 B (d_names_of_all.mono (by decide)) (j.mono (by decide))
 have d_flowers_of:=bJb T11 B (L.mono (by decide)) (D.mono (by decide))
 have J:=bZu T21 B (Y.mono (by decide)) (d_flowers_of.mono (by decide))
 have d_is_part:=dQ9 T19 B (D.mono (by decide))
 have d_parts_from:=bJe T18 B (d_is_part.mono (by decide))
 have d_parting_of:=bJf T17 B (d_parts_from.mono (by decide)) (j.mono (by decide))
 have d_fewest_parts:=bZe T16 B (J.mono (by decide)) (d_parting_of.mono (by decide))
 have d_parting_shown:=bQ7 T20 B (d_is_part.mono (by decide))
 have d_has_all:=dQb (P:=l.prog) (w:=w) (base:=base) T1 B;have d_meet_of:=dQc (P:=l.prog) (w:=w) (base:=base) T3 B;have d_most_beside:=bZw T13 B (d_has_all.mono (by decide)) (L.mono (by decide)) (d_meet_of.mono (by decide)) (Y.mono (by decide))
 have d_cores_of_two:=bZm T12 B (L.mono (by decide)) (d_meet_of.mono (by decide))
 have N:=aJ4 (P:=l.prog) (w:=w) T10 B CD TF;have z:=aJf T9 B (d_most_beside.mono (by decide)) (d_cores_of_two.mono (by decide)) (N.mono (by decide))
 have d_flower_shown:=bZn T8 B (D.mono (by decide))
 have O:=aJh T29 B (d_parting_shown.mono (by decide)) (z.mono (by decide)) (d_flower_shown.mono (by decide)) (D.mono (by decide))
 have U:=aJi T30 B (J.mono (by decide)) (D.mono (by decide)) (z.mono (by decide))
 have d_law_renamed:=bZx T28 B (d.mono (by decide))
 exact gXy F3 B (d_law_pile.mono (by decide)) (d.mono (by decide)) (d_law_few_sets.mono (by decide)) (d_fewest_parts.mono (by decide)) (J.mono (by decide)) (O.mono (by decide)) (U.mono (by decide)) (d_law_renamed.mono (by decide))
end Toy
namespace PySem.W.Fast
theorem tw17792138716688049782:True:=⟨⟩
theorem tw4578441369538114241:True:=⟨⟩
theorem tw4937527903151868924:True:=⟨⟩
theorem tw3875101197726271040:True:=⟨⟩
theorem tw6658086053299988731:True:=⟨⟩
theorem tw16375561444710256940:True:=⟨⟩
theorem tw7421959512289617778:True:=⟨⟩
theorem tw16274350562754516184:True:=⟨⟩
theorem tw8267960514511258244:True:=⟨⟩
theorem tw7056293951278447080:True:=⟨⟩
theorem tw11684581195528667098:True:=⟨⟩
theorem tw7608326729458908453:True:=⟨⟩
theorem tw6728738870294621689:True:=⟨⟩
theorem tw5742862396839973453:True:=⟨⟩
theorem tw4601016548419961015:True:=⟨⟩
theorem tw5858331012086454019:True:=⟨⟩
end PySem.W.Fast
open PySem PySem.W PyProof.Rows
set_option maxRecDepth 100000 in
set_option maxHeartbeats 0 in
theorem PySem.Challenge.cw_corepetals_k61_whole_parts_and_bounds_holds : PySem.Challenge.rw_corepetals_k61_whole_parts_and_bounds.Holds := by
 w_on;o_law;k_head;(case hw=>w_witness2)
 k_fill
 refine L2.walkT (l:=PySem.Challenge.rw_corepetals_k61_whole_parts_and_bounds) (x:="first_of_longest") (lp:=Toy.lpos) (qual:=L2.lamQual "first_of_longest") rfl rfl (λw h Y=>⟨PySem.W.km_in_of Y,PySem.W.km_tabs_of Y _ aj⟩) ?R;refine' ⟨_,?ht,?hh,?hno,?F⟩
 case ht =>
  intro p;refine' L2.codeIn_mk ?a ?l ?e
  (case a=>k_is);(case l=>k_is);(case e=>rfl)
 case hh=>intro p;kernel_rfl
 case hno=>intro p;first|rfl|kernel_rfl
 case F =>
  intro w mg fa h KX G hmg CD;have B:L2.Bs mg:=by
   refine' L2.bs_mk KX G (L2.bs_all ?z1 ?z2 ?z3 ?z4 ?z5 ?z6 ?z7 ?z8 ?z9 ?z10 ?z11 ?z12 ?z13 ?z14 ?z15 ?z16 ?z17) <;> k_is
  have AB:mg "abs"=none:=by
   refine' PySem.W.mg_none_of KX G ?z
   k_is
  have T1:L2.Tx (L2.KOf KX) mg "has_all" Toy.s_has_all:=by
   dsimp only[L2.KOf];exact L2.tx_mk KX G (by k_is) (by k_is) (by k_is) (by k_is)
  have T2:L2.Tx (L2.KOf KX) mg "meets" Toy.s_meets:=by
   dsimp only[L2.KOf];exact L2.tx_mk KX G (by k_is) (by k_is) (by k_is) (by k_is)
  have T3:L2.Tx (L2.KOf KX) mg "meet_of" Toy.s_meet_of:=by
   dsimp only[L2.KOf];exact L2.tx_mk KX G (by k_is) (by k_is) (by k_is) (by k_is)
  have T4:L2.Tx (L2.KOf KX) mg "without_names" Toy.s_without_names:=by
   dsimp only[L2.KOf];exact L2.tx_mk KX G (by k_is) (by k_is) (by k_is) (by k_is)
  have T5:L2.Tx (L2.KOf KX) mg "choices_of" Toy.s_choices_of:=by
   dsimp only[L2.KOf];exact L2.tx_mk KX G (by k_is) (by k_is) (by k_is) (by k_is)
  have T6:L2.Tx (L2.KOf KX) mg "core_of" Toy.s_core_of:=by
   dsimp only[L2.KOf];exact L2.tx_mk KX G (by k_is) (by k_is) (by k_is) (by k_is)
  have T7:L2.Tx (L2.KOf KX) mg "names_of_all" Toy.s_names_of_all:=by
   dsimp only[L2.KOf];exact L2.tx_mk KX G (by k_is) (by k_is) (by k_is) (by k_is)
  have T8:L2.Tx (L2.KOf KX) mg "flower_shown" Toy.s_flower_shown:=by
   dsimp only[L2.KOf];exact L2.tx_mk KX G (by k_is) (by k_is) (by k_is) (by k_is)
  have T9:L2.Tx (L2.KOf KX) mg "greatest_flower" Toy.s_greatest_flower:=by
   dsimp only[L2.KOf];exact L2.tx_mk KX G (by k_is) (by k_is) (by k_is) (by k_is)
  have T10:L2.Tx (L2.KOf KX) mg "first_of_longest" Toy.s_first_of_longest:=by
   dsimp only[L2.KOf];exact L2.tx_mk KX G (by k_is) (by k_is) (by k_is) (by k_is)
  have T11:L2.Tx (L2.KOf KX) mg "flowers_of" Toy.s_flowers_of:=by
   dsimp only[L2.KOf];exact L2.tx_mk KX G (by k_is) (by k_is) (by k_is) (by k_is)
  have T12:L2.Tx (L2.KOf KX) mg "cores_of_two" Toy.s_cores_of_two:=by
   dsimp only[L2.KOf];exact L2.tx_mk KX G (by k_is) (by k_is) (by k_is) (by k_is)
  have T13:L2.Tx (L2.KOf KX) mg "most_beside" Toy.s_most_beside:=by
   dsimp only[L2.KOf];exact L2.tx_mk KX G (by k_is) (by k_is) (by k_is) (by k_is)
  have T14:L2.Tx (L2.KOf KX) mg "most_free" Toy.s_most_free:=by
   dsimp only[L2.KOf];exact L2.tx_mk KX G (by k_is) (by k_is) (by k_is) (by k_is)
  have T15:L2.Tx (L2.KOf KX) mg "most_free_with" Toy.s_most_free_with:=by
   dsimp only[L2.KOf];exact L2.tx_mk KX G (by k_is) (by k_is) (by k_is) (by k_is)
  have T16:L2.Tx (L2.KOf KX) mg "fewest_parts" Toy.s_fewest_parts:=by
   dsimp only[L2.KOf];exact L2.tx_mk KX G (by k_is) (by k_is) (by k_is) (by k_is)
  have T17:L2.Tx (L2.KOf KX) mg "parting_of" Toy.s_parting_of:=by
   dsimp only[L2.KOf];exact L2.tx_mk KX G (by k_is) (by k_is) (by k_is) (by k_is)
  have T18:L2.Tx (L2.KOf KX) mg "parts_from" Toy.s_parts_from:=by
   dsimp only[L2.KOf];exact L2.tx_mk KX G (by k_is) (by k_is) (by k_is) (by k_is)
  have T19:L2.Tx (L2.KOf KX) mg "is_part" Toy.s_is_part:=by
   dsimp only[L2.KOf];exact L2.tx_mk KX G (by k_is) (by k_is) (by k_is) (by k_is)
  have T20:L2.Tx (L2.KOf KX) mg "parting_shown" Toy.s_parting_shown:=by
   dsimp only[L2.KOf];exact L2.tx_mk KX G (by k_is) (by k_is) (by k_is) (by k_is)
  have T21:L2.Tx (L2.KOf KX) mg "bound_below" Toy.s_bound_below:=by
   dsimp only[L2.KOf];exact L2.tx_mk KX G (by k_is) (by k_is) (by k_is) (by k_is)
  have T22:L2.Tx (L2.KOf KX) mg "_law_pile" Toy.s_law_pile:=by
   dsimp only[L2.KOf];exact L2.tx_mk KX G (by k_is) (by k_is) (by k_is) (by k_is)
  have T23:L2.Tx (L2.KOf KX) mg "_law_next" Toy.s_law_next:=by
   dsimp only[L2.KOf];exact L2.tx_mk KX G (by k_is) (by k_is) (by k_is) (by k_is)
  have T24:L2.Tx (L2.KOf KX) mg "_law_names" Toy.s_law_names:=by
   dsimp only[L2.KOf];exact L2.tx_mk KX G (by k_is) (by k_is) (by k_is) (by k_is)
  have T25:L2.Tx (L2.KOf KX) mg "_law_set" Toy.s_law_set:=by
   dsimp only[L2.KOf];exact L2.tx_mk KX G (by k_is) (by k_is) (by k_is) (by k_is)
  have T26:L2.Tx (L2.KOf KX) mg "_law_collection" Toy.s_law_collection:=by
   dsimp only[L2.KOf];exact L2.tx_mk KX G (by k_is) (by k_is) (by k_is) (by k_is)
  have T27:L2.Tx (L2.KOf KX) mg "_law_few_sets" Toy.s_law_few_sets:=by
   dsimp only[L2.KOf];exact L2.tx_mk KX G (by k_is) (by k_is) (by k_is) (by k_is)
  have T28:L2.Tx (L2.KOf KX) mg "_law_renamed" Toy.s_law_renamed:=by
   dsimp only[L2.KOf];exact L2.tx_mk KX G (by k_is) (by k_is) (by k_is) (by k_is)
  have T29:L2.Tx (L2.KOf KX) mg "_law_parts_right" Toy.s_law_parts_right:=by
   dsimp only[L2.KOf];exact L2.tx_mk KX G (by k_is) (by k_is) (by k_is) (by k_is)
  have T30:L2.Tx (L2.KOf KX) mg "_law_count_right" Toy.s_law_count_right:=by
   dsimp only[L2.KOf];exact L2.tx_mk KX G (by k_is) (by k_is) (by k_is) (by k_is)
  refine' Toy.fin KX G hmg B CD AB T1 T2 T3 T4 T5 T6 T7 T8 T9 T10 T11 T12 T13 T14 T15 T16 T17 T18 T19 T20 T21 T22 T23 T24 T25 T26 T27 T28 T29 T30 ?a ?l ?c ?k
  (case a=>k_is);(case l=>k_is);(case c=>k_is);(case k=>k_is)
