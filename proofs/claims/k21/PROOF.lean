import PyProof.Rows.All
import Wide.All
import OpenK.AllK
import Wide.FinOn
import Lean
import PyProof.EqAt
import PyProof.EqKinds
import PyProof.TupleCall
import PySem.SetOps
import KE.KSortTup
import PyProof.Rows.SortShellK
import KE.KDictSum
import PyProof.Rows.StrJoin2
import PyProof.Rows.SumAny
import KE.KxText
import PyProof.ZipIter
import PyProof.Rows.FactsT2
import PyProof.Rows.ZipGen
import PyProof.StrOps2
import PyProof.ListRange
import PyProof.ListStr
import PyProof.FString5
import PyProof.AutoSeq1
import PyProof.MinMaxWalk
import PyProof.WalksMore
import PyProof.Rows.CallKwBuiltin
import KE.KMinKey
import PyProof.Rows.BitMore
import PyProof.TupleOfStr
import KE.KLam
import Wide.Seal
import PyProof.DictItems
import KE.KPairComp
import PyProof.Rows.TupDisplay
import PySem.Challenge.RW_corepetals_k21_whole_most_without
open And renaming intro->jM
open Array renaming filterMap->kh,forIn_toList->gS,getD->iy,getD_eq_getD_getElem?->cu,getElem?_eq_getElem->gB,getElem?_eq_none->ke,getElem?_eq_some_iff->dI,getElem?_replicate->jD,getElem?_setIfInBounds_ne->ik,getElem?_setIfInBounds_self_of_lt->f7,getElem?_toList->aS,length_toList->aW,mem_of_getElem?->fT,mem_toList_iff->eB,perm_iff_toList_perm->c9,replicate->gO,size_append->ig,size_map->kG,size_push->dY,toList_append->cL,toList_push->cG,toList_reverse->gi,toList_setIfInBounds->ji
open Array.Perm renaming refl->ki
open Bool renaming and_eq_true->aV,and_false->kC,eq_false_iff->fg,eq_iff_iff->dX,false_eq_true->aM,false_ne_true->bh,not_eq_true'->dg,not_false->kH,not_true->gJ,true_and->eQ
open Classical renaming byContradiction->aI
open False renaming elim->d5
open ForInStep renaming done->bn,yield->bD
open Int renaming natCast_add->gP,toNat_natCast->cO
open LawfulBEq renaming eq_of_beq->iW
open LawfulMonad renaming bind_assoc->j6,pure_bind->iX
open List renaming all_cons->iH,all_eq_true->bI,all_map->gv,any_cons->jI,any_eq_true->jP,append_assoc->be,append_nil->ce,drop_append->gw,drop_append_of_le_length->iL,drop_eq_getElem_cons->cj,drop_eq_nil_of_le->bE,drop_length->gx,drop_zero->kD,eq_nil_of_length_eq_zero->b7,ext_getElem->jV,ext_getElem?->hW,filterMap_cons->cK,filter_append->dD,filter_congr->f6,filter_cons->cb,filter_eq_nil_iff->dP,filter_eq_self->eK,filter_map->gQ,filter_sublist->cR,find?_cons->dq,flatMap_append->gC,flatMap_cons->bq,flatMap_nil->jW,flatten_append->fA,flatten_cons->jx,flatten_singleton->eN,forIn_cons->dW,forIn_nil->jc,getD_eq_getElem?_getD->aj,getElem?_append_left->d0,getElem?_append_right->cA,getElem?_cons_succ->fD,getElem?_cons_zero->jU,getElem?_eq_getElem->af,getElem?_eq_none->cC,getElem?_eq_some_iff->aH,getElem?_map->aQ,getElem?_set_ne->f8,getElem?_take_of_lt->gF,getElem_drop->hZ,getElem_mem->eS,getElem_of_mem->bd,getElem_range->jl,getElem_take->fW,getLastD_cons->jn,isEmpty_nil->jR,length->dU,length_append->au,length_cons->az,length_drop->bR,length_eq_zero_iff->eG,length_eraseIdx_of_lt->jf,length_filter_le->bB,length_map->ah,length_nil->cg,length_pos_iff->dQ,length_range->hX,length_singleton->d3,length_take->aP,lookup_cons->da,mapM_toArray->jv,map_append->bK,map_congr_left->fC,map_cons->aL,map_id->kI,map_map->bg,map_nil->fJ,mem_append->aY,mem_append_left->cZ,mem_append_right->bz,mem_cons->av,mem_cons_of_mem->ak,mem_cons_self->ai,mem_filter->ao,mem_filterMap->eT,mem_flatten->fF,mem_map->aR,mem_of_getElem?->am,mem_of_mem_drop->eD,mem_of_mem_take->c6,mem_range->bf,mem_reverse->jT,mem_singleton->aJ,mergeSort_perm->iP,nil_append->bW,nil_sublist->gy,nodup_append->fh,nodup_cons->bo,nodup_nil->eE,not_mem_nil->ix,of_mem_zip->kg,pairwise_append->a9,pairwise_cons->aN,pairwise_iff_getElem->bT,pairwise_map->cV,pairwise_mergeSort->gY,pairwise_reverse->io,pairwise_singleton->bj,perm_append_comm->d4,perm_append_singleton->i9,perm_ext_iff_of_nodup->eV,perm_middle->gq,range->a4,range_succ->iM,replicate->i5,reverse_perm->jw,singleton_sublist->fN,size_toArray->ay,sublist_append_right->jq,sublist_nil->iD,sum_cons->cP,take_add_one->cz,take_append_drop->bA,take_append_of_le_length->eF,take_length->cx,take_of_length_le->bQ,take_sublist->cF,zip_cons_cons->cI,zip_nil_left->fZ,zip_nil_right->d8
open List.Pairwise renaming and_mem->ku,filter->cw,imp_of_mem->bX,nil->ff
open List.Perm renaming append_left->eW,append_right->eM,refl->dJ
open List.Sublist renaming cons₂->kP,refl->fj
open MonadExcept renaming tryCatch->kJ
open Ne renaming symm->cE
open Option renaming getD_none->jL,isSome_iff_exists->bM,isSome_some->i8,map_eq_some_iff->bF
open Option.some renaming inj->a7
open Or renaming inl->a8,inr->iC
open PyProof.Rows renaming AllBare->js,IntsAre->iQ,IsTup->gE,Keyed->aO,SortKind->fE,SortSt->c7,StrsAre->kc,arrOf->aT,callWith_builtin1->iw,callWith_type1->eL,elem'->eU,envOfC->i6,failedOf->gh,get?_update_seq->e8,lt_int->kL,lt_str->kK,mirror->dZ,pairsOf->iI,pairsOf_toList->jj,pendingOf->bY,reverseSlice'_eq->dH,seqObj->b8,setArr->cX,setPending->gj,slot_tuple_getitem->cJ,sortedHeap->iB,wpS_bind->aA,wpS_forRange->ca,wpS_get->iT,wpS_lift->jh,wpS_modify->c8,wpS_mono->dG,wpS_pure->aG
open PyProof.Rows.F renaming entry_set_update_loop->de,plain_set_update_loop->cq
open PyProof.Rows.SortSt renaming mk'->jg
open PySem renaming Around->aU,Builtin->cr,Comprehension->ft,Fin->iZ,FuncData->dE,Heap->bb,IsItemIter->gU,IsTupleKey->j7,Keyword->j5,NameKind->fP,Paired->aZ,Program->ax,SetTable->a6,Shared->ag,Value->ab,World->aK,argBest->fM,assign->jB,assignEach->fq,attributeBase->gH,backTo->cM,backToKw->kB,behindInMarks->eP,binaryOp->fb,bootBuiltins->cD,builtinsNs->ip,cLine->bN,carriedByValue->ja,cellsFrom->eR,closureFor->i7,codeAny->fx,codeAny_builtin->ci,codeAny_mono->gn,codeAny_of_tree->gN,compEnvC->hU,compTurn->eA,compareOp->bU,concat_meets->j3,firstArgMember->jd,foldedSetIterable->cy,getItem->j4,holding->jt,keywordEach->iJ,letOwnedTupleGo->dR,mainGlobals->aX,mem_of_lookup->fy,model->aF,noFill_tuple_add->jK,ofAClassStatement->fX,pickOrder->iY,plainId_quiet->dh,pushCells->gp,putSet_of->iz,pyIter->iu,pyNext->eJ,rawInt->er,recursionLimit->gZ,relayAll->jN,richCompare_meets_room->fL,seqItems?->jQ,setAddHashed->j8,setField->iK,setsByText->kb,sizeLine_eq->bH,sliceBounds->gW,standAt->gk,starEach->aD,strKind->eg,swapsWith->iq,sysModules->fk,unsupported->fH,wpAny->aE,wpAny_Call_Name_kw->fI,wpAny_Name->gR,wpAny_askSetting->dF,wpAny_attempt->iG,wpAny_bind->aa,wpAny_callSpecial?_slot->cN,wpAny_call_entry->b9,wpAny_dictEntries->jz,wpAny_eqBool_tuple->jb,wpAny_field->ew,wpAny_fieldsOf->ie,wpAny_forIn_list->gu,wpAny_holding->bS,wpAny_isInstance->iA,wpAny_isOneOf_itemiter->fO,wpAny_ite_split->iO,wpAny_letGo->jy,wpAny_loadName_local->f9,wpAny_loadPart'->bu,wpAny_mono->dw,wpAny_newList->jH,wpAny_newObj_type->bi,wpAny_of_eq->ju,wpAny_passesOwn->gM,wpAny_pure->ad,wpAny_pyIter_list->fY,wpAny_pyIter_tuple->fK,wpAny_rule->dA,wpAny_seqItems->dM,wpAny_setField_rec->bV,wpAny_setState_of->dN,wpAny_standAt->fS,wpAny_storeSet_of->h9,wpAny_truthy_bool->cU,wpAny_tryCatch->fG,wpAny_typeNameOfWhole_itemiter->d9,wpAny_typeNameOf_itemiter->eZ,wpAny_typeOf->g8,wpAny_updateSeq->fQ
open PySem.Around renaming under_plainId->bJ
open PySem.AutoSeq1 renaming sub_tuple_tuple->gK
open PySem.Builtin.Builtins renaming bindParams->iU
open PySem.Builtin.Dict renaming showsAll->kA
open PySem.Builtin.Dict_items renaming ownedTupleFields->gL,ownsTuple->fR,pairFromOwner->ij
open PySem.Builtin.Frozenset renaming addrOf->jF,updateFrom->iN
open PySem.Builtin.List renaming listExtendWith->iS,listLengthHint->iR,listSameRef->jG,listTooLong->gI
open PySem.Builtin.Slice renaming sliceAdjust->gz,sliceApplied->gc,slicePlaces->eX
open PySem.Builtin.SmallTypes renaming nextOf->jo
open PySem.Builtin.Str renaming strSliceIndices->cW
open PySem.Builtin.Tuple renaming tupleCompareSizes->fu,tupleExact->cH,tupleItemsOf->gf
open PySem.Calls renaming Name_function_global->ga,callWith_builtin->g9,call_function_entry->gA,loadGlobal_builtin->jA,spliced_cons->d6,spliced_nil->fV
open PySem.Code renaming compLoop->iF,compStart->hJ
open PySem.Expr renaming SetComp->kf
open PySem.F renaming args_tuple_add_2->gG,args_tuple_lt_2->gX,called_set->bG,entry_extend_loop->jp,entry_set_init->ka,entry_tuple_add->gV,entry_tuple_lt->ic,entry_type_call->jO,plainAttrs_dict->jX,plain_extend_loop->eY,plain_list_iadd->jS,plain_set_new->ko,slot_dict_get->kz,slot_dict_items->jY,slot_set_iter->kr,slot_tuple_add->g7,slot_tuple_lt->fU,typeCall_set_1->j9
open PySem.Heap renaming SameBut->dj,get?_push_of_some->ae,get?_push_size->aq,get?_update_other->br,get?_update_self->cT,lt_size->aC,size_push->cB
open PySem.Heap.SameBut renaming extBut->gD,refl->kQ,update->cm
open PySem.NameKind renaming cell->iE,free->ba
open PySem.Obj renaming mapSeq->cf,putSet->d7
open PySem.Paired renaming length->bL
open PySem.PassesOwn renaming never->du
open PySem.SeqAt renaming EqAt->cS,RcNeAt->cQ
open PySem.SeqAt.EqAt renaming of_refs->kO,same->kj,str_str->je
open PySem.SetTable renaming fill->kN,fits->kM,fresh->kF,grown->dO
open PySem.Shared renaming TypeIs->jE
open PySem.Str renaming ofString->bC
open PySem.Value renaming bool->i4,int->iV,isStrOf->eO,isStrOf_shape->fw,none->bZ,notImplemented->gg,ref->cY,str->jJ,type->db
open PySem.W renaming Frag->ar,cellsFrom_some->j1,codeIn->g6,fnOf->fc,keepIn->gb,kla_obj->km,methodObj->jr,mg_of->jC,nsIn->bO,tabObj->ii
open PySem.pickOrder renaming go->kR
open Sum renaming inl->jZ,inr->j0
set_option Elab.async false
set_option linter.all false
set_option maxRecDepth 100000
namespace L2
open PySem PySem.Spec PyProof.Rows
abbrev Key:=Sum Int Str
def dXu:Key->ab->Bool
 |.inl k,v=>ab.isInt k v
 |.inr x,v=>eO x v
def keyH(w:aK):Key->Int
 |.inl k=>hashInt k
 |.inr x=>hashStr w x
theorem aQn:∀{k:Key}{v:ab},dXu k v=true->(∃i t,k=jZ i/\v=iV i t)\/(∃x t,k=j0 x/\v=jJ x t)
 |.inl i,v,h=>by
  obtain⟨t,e⟩:=ab.isInt_shape h;exact .inl ⟨i,t,rfl,e⟩
 |.inr x,v,h=>by
  obtain⟨t,e⟩:=fw h;exact .inr ⟨x,t,rfl,e⟩
theorem fZb(a b:Int):decide ((jZ a:Key)=jZ b)=(a==b):=by
 by_cases e:a=b
 ·subst e;simp
 ·have h:¬ (jZ a:Key)=jZ b:=λq=>e (jZ.inj q);rw[decide_eq_false h];exact(beq_eq_false_iff_ne.mpr e).symm
theorem fZc(a b:Str):decide ((j0 a:Key)=j0 b)=decide (a=b):=by
 by_cases e:a=b
 ·subst e;simp
 ·have h:¬ (j0 a:Key)=j0 b:=λq=>e (j0.inj q);rw[decide_eq_false h,decide_eq_false e]
theorem fZd(a:Int)(b:Str):decide ((jZ a)=j0 b)=false:=decide_eq_false (λq=>nomatch q)
theorem fZe(a:Str)(b:Int):decide ((j0 a)=jZ b)=false:=decide_eq_false (λq=>nomatch q)
def bQ7(prog:ax)(w:aK):PySem.KeyKind prog w Key where
 is:=dXu
 hash:=keyH w
 inj:=λv a b ha hb=>by
  rcases aQn ha with⟨i,t,rfl,rfl⟩|⟨x,t,rfl,rfl⟩
  ·rcases aQn hb with⟨j,u,rfl,e⟩|⟨y,u,rfl,e⟩
   ·injection e with e1 _;rw[e1]
   ·exact nomatch e
  ·rcases aQn hb with⟨j,u,rfl,e⟩|⟨y,u,rfl,e⟩
   ·exact nomatch e
   ·injection e with e1 _;rw[e1]
 byValue:=λk v h=>by
  rcases aQn h with⟨i,t,rfl,rfl⟩|⟨x,t,rfl,rfl⟩ <;> rfl
 pyHash:=λhv h=>by
  rcases aQn hv with⟨i,t,rfl,rfl⟩|⟨x,t,rfl,rfl⟩
  ·exact wpAny_pyHash_int h
  ·exact wpAny_pyHash_str h
 eqBool:=λhu hv h=>by
  rcases aQn hu with⟨i,t,rfl,rfl⟩|⟨x,t,rfl,rfl⟩
  ·rcases aQn hv with⟨j,u,rfl,rfl⟩|⟨y,u,rfl,rfl⟩
   ·rw[fZb] at h;exact wpAny_eqBool_int h
   ·rw[fZd] at h;exact cS.int_str i t y u _ _ _ _ h
  ·rcases aQn hv with⟨j,u,rfl,rfl⟩|⟨y,u,rfl,rfl⟩
   ·rw[fZe] at h;exact cS.str_int x t j u _ _ _ _ h
   ·rw[fZc] at h;exact wpAny_eqBool_str h
 «strs»:=λk x t v h=>by
  rcases aQn h with⟨i,u,rfl,e⟩|⟨y,u,rfl,e⟩
  ·exact nomatch e
  ·injection e with e1 _
   subst e1;cases v <;> rfl
inductive V where
 |non|bl (b:Bool)|int (i:Int)|str (x:Str)|byt (b:Array UInt8)|flt (b:UInt64)|ref (a:Addr)|ty (n:String)
 deriving DecidableEq
def RelV:V->ab->Prop
 |.non,u=>u=bZ
 |.bl b,u=>u=i4 b
 |.int i,u=>∃t,u=iV i t
 |.str x,u=>∃t,u=jJ x t
 |.byt b,u=>∃t,u=ab.bytes b t
 |.flt b,u=>∃t,u=ab.float b t
 |.ref a,u=>u=cY a
 |.ty n,u=>u=db n
abbrev Vals:List V->List ab->Prop:=aZ RelV
theorem Vals.length(r:Vals xs us):xs.length=us.length:=bL r
theorem Vals.get:∀{xs:List V}{us:List ab}{i:Nat}{x:V},Vals xs us->xs[i]?=some x->∃u,us[i]?=some u/\RelV x u
 |_,_,_,_,.nil,e=>by simp at e
 |_,_,0,_,.cons r _,e=>by simp at e;subst e;exact⟨_,rfl,r⟩
 |_,_,i+1,x,.cons _ t,e=>by
  obtain⟨u,h1,h2⟩:=Vals.get t (by simpa using e)
  exact⟨u,by simpa using h1,h2⟩
theorem Vals.append:∀{xs ys:List V}{us ws:List ab},Vals xs us->Vals ys ws->Vals (xs++ys) (us++ws)
 |_,_,_,_,.nil,s=>s
 |_,_,_,_,.cons r t,s=>.cons r (Vals.append t s)
theorem Vals.take:∀{xs:List V}{us:List ab}(n:Nat),Vals xs us->Vals (xs.take n) (us.take n)
 |_,_,0,_=>.nil
 |_,_,_+1,.nil=>.nil
 |_,_,n+1,.cons r t=>.cons r (Vals.take n t)
theorem Vals.drop:∀{xs:List V}{us:List ab}(n:Nat),Vals xs us->Vals (xs.drop n) (us.drop n)
 |_,_,0,r=>r
 |_,_,_+1,.nil=>.nil
 |_,_,n+1,.cons _ t=>Vals.drop n t
def RelO:Option V->Option ab->Prop
 |some v,some u=>RelV v u
 |none,none=>True
 |_,_=>False
def KV{κ:Type}:List (κ×V)->List (κ×ab)->Prop:=aZ λ(p:κ×V) (q:κ×ab)=>p.1=q.1/\RelV p.2 q.2
def kV:Key->V
 |.inl i=>.int i
 |.inr x=>.str x
inductive HO where
 |lst (xs:List V)
 |tup (xs:List V)
 |dK (kvs:List (Key×V))|dT (kvs:List (List Key×V))
 |set (S:Int->Bool) (n:Nat)
 |ins (C dx:Addr) (fs:List (Str×V))
 |own (x:Addr)
 |xd (fs:List (Str×V))
 |met (f x:Addr)
 |rng (lo hi:Int)
 |frz (o:Obj) (u:HO)
 |tbl (ps:Array ab)
 |ext (φ:bb->Prop)
abbrev Hp:=Addr->Option HO
def upd(H:Hp)(a:Addr)(o:HO):Hp:=λb=>if b=a then some o else H b
theorem aQ6:upd H a o a=some o:=by unfold upd;rw[if_pos rfl]
theorem upd_ne(h:b≠a):upd H a o b=H b:=by unfold upd;rw[if_neg h]
theorem aQf{H:Hp}(h:H a=some o)(h':H b=none):a≠b:=by
 intro e;subst e;rw[h] at h';cases h'
section
variable(P:ax)(w:aK)
def ObjOk(H:Hp)(h:bb)(a:Addr):HO->Prop
 |.lst xs=>xs.length<=sizeLine/\∃(its:List ab) (n:Nat),Vals xs its/\h.get? a=some {cls:=.type "list",data:=.seq its.toArray n}
 |.tup xs=>xs.length<=sizeLine/\∃its:List ab,Vals xs its/\gE h a its.toArray/\∀o,h.get? a=some o->o.dict=none
 |.dK kvs=>kvs.length<=sizeLine/\(a==fk)=false/\∃vs,KV kvs vs/\h.DictOf (bQ7 P w) a vs
 |.dT kvs=>kvs.length<=sizeLine/\(a==fk)=false/\∃xs:List (List Key×Addr×ab),
   aZ (λ(p:List Key×V) (q:List Key×Addr×ab)=>p.1=q.1/\H q.2.1=some (.tup (p.1.map kV))/\RelV p.2 q.2.2) kvs xs /\
   ∃o es ep,h.get? a=some o/\o.ExactDict/\o.data=.dict es ep/\es.toList=xs.map (entryOfKey (tupleKind (bQ7 P w)))/\(xs.map (·.1)).Nodup
 |.set S n=>h.SetOf (intKind P w) a S n
 |.ins C dx fs=>H dx=some (.own a)/\fs.length<=1000/\dx≠a/\h.get? a=some (PySem.W.instObj C dx) /\
   ∃mA,h.Ns1 dx mA/\(∀f,RelO (fs.lookup f) (mA f))/\PySem.Within mA (fs.map (·.1))
 |.own _=>∃o,h.get? a=some o
 |.xd fs=>∃mA,h.Ns1 a mA/\∀f,RelO (fs.lookup f) (mA f)
 |.rng lo hi=>∃t u v,h.get? a=some {cls:=.type "range",data:=.fields #[.int lo t,.int hi u,.int 1 v]}
 |.frz o u=>h.get? a=some o/\ObjOk H h a u
 |.tbl ps=>h.get? a=some {cls:=.none,data:=.fields ps}
 |.met f x=>h.get? a=some (jr (.ref f) (.ref x))
 |.ext φ=>φ h/\(∃o,h.get? a=some o)/\∀h1 h2:bb,φ h1->(∀o,h1.get? a=some o->h2.get? a=some o)->φ h2
def HOk(H:Hp)(h:bb):Prop:=∀a o,H a=some o->ObjOk P w H h a o
end
section
variable{P:ax}{w:aK}{H H':Hp}{h h':bb}{a:Addr}{o:HO}
theorem ObjOk.lt(x:ObjOk P w H h a o):a<h.objs.size:=by
 cases o with
 |lst xs=>obtain⟨_,_,_,_,e⟩:=x;exact aC e
 |tup xs=>obtain⟨_,_,_,p⟩:=x;exact p.1.lt
 |dK j=>obtain⟨_,_,_,_,o,_,_,e,_⟩:=x;exact aC e
 |dT j=>obtain⟨_,_,_,_,o,_,_,e,_⟩:=x;exact aC e
 |set S n=>obtain⟨o,_,_,_,e,_⟩:=x;exact aC e
 |ins C B fs=>obtain⟨_,_,_,e,_⟩:=x;exact aC e
 |own y=>obtain⟨_,e⟩:=x;exact aC e
 |xd fs=>obtain⟨_,⟨_,_,_,e,_⟩,_⟩:=x;exact aC e
 |rng lo hi=>obtain⟨_,_,_,e⟩:=x;exact aC e
 |frz z u=>obtain⟨e,_⟩:=x;exact aC e
 |tbl ps=>exact aC (x)
 |met f y=>exact aC (x)
 |ext φ=>obtain⟨_,⟨_,e⟩,_⟩:=x;exact aC e
theorem Paired.mapP{F G:α->β->Prop}:∀{l₁:List α}{l₂:List β},aZ F l₁ l₂->(∀a b,F a b->G a b)->aZ G l₁ l₂
 |_,_,.nil,_=>.nil
 |_,_,.cons r t,f=>.cons (f _ _ r) (Paired.mapP t f)
theorem ObjOk.stay(x:ObjOk P w H h a o)(k:∀b u,(b=a\/H b=some (.own a))->h.get? b=some u->h'.get? b=some u)
  (ho:∀b,H b=some (.own a)->H' b=some (.own a)) (ht:∀b xs,H b=some (.tup xs)->H' b=some (.tup xs)):ObjOk P w H' h' a o:=by
 induction o with
 |lst xs=>obtain⟨z,B,n,r,e⟩:=x;exact⟨z,B,n,r,k _ _ (.inl rfl) e⟩
 |tup xs =>
  obtain⟨z,B,r,⟨j,e,c⟩,nd⟩:=x;exact⟨z,B,r,⟨j,k _ _ (.inl rfl) e,c⟩,λo q=>by rw[k _ _ (.inl rfl) e] at q;cases q;exact nd _ e⟩
 |dK J=>obtain⟨z,y,vs,r,j,es,ep,e,c⟩:=x;exact⟨z,y,vs,r,j,es,ep,k _ _ (.inl rfl) e,c⟩
 |dT J =>
  obtain⟨z,y,xs,r,j,es,ep,e,c⟩:=x;exact⟨z,y,xs,Paired.mapP r λp q z=>⟨z.1,ht _ _ z.2.1,z.2.2⟩,j,es,ep,k _ _ (.inl rfl) e,c⟩
 |set S n=>obtain⟨j,es,ep,t,e,c⟩:=x;exact⟨j,es,ep,t,k _ _ (.inl rfl) e,c⟩
 |ins C Y fs =>
  obtain⟨d,z,ne,e,G,⟨D,es,ep,U,c⟩,r⟩:=x;exact⟨ho _ d,z,ne,k _ _ (.inl rfl) e,G,⟨D,es,ep,k _ _ (.inr d) U,c⟩,r⟩
 |own y=>obtain⟨j,e⟩:=x;exact⟨j,k _ _ (.inl rfl) e⟩
 |xd fs=>obtain⟨G,⟨D,es,ep,e,c⟩,r⟩:=x;exact⟨G,⟨D,es,ep,k _ _ (.inl rfl) e,c⟩,r⟩
 |rng lo hi=>obtain⟨t,u,v,e⟩:=x;exact⟨t,u,v,k _ _ (.inl rfl) e⟩
 |frz j u O=>obtain⟨e,q⟩:=x;exact⟨k _ _ (.inl rfl) e,O q⟩
 |tbl ps =>
  have e:=x;exact k a _ (.inl rfl) e
 |met f y =>
  have e:=x;exact k a _ (.inl rfl) e
 |ext φ=>obtain⟨p,⟨o,e⟩,st⟩:=x;exact⟨st _ _ p λo q=>k _ _ (.inl rfl) q,⟨o,k _ _ (.inl rfl) e⟩,st⟩
theorem bJ5{g:bb}:∀o,(g.push {cls:=.type "tuple",data:=.seq arr n}).get? g.objs.size=some o->o.dict=none:=λo e=>by
 rw[aq _ rfl] at e;cases e;rfl
theorem HOk.lt(x:HOk P w H h)(e:H a=some o):a<h.objs.size:=(x a o e).lt
theorem HOk.fresh(x:HOk P w H h)(e:h.objs.size<=a):H a=none:=by
 cases q:H a with
 |none=>rfl
 |some u=>exact absurd (Nat.lt_of_lt_of_le (x.lt q) e) (Nat.lt_irrefl _)
theorem HOk.kept(x:HOk P w H h)(k:∀b u,h.get? b=some u->h'.get? b=some u):HOk P w H h':=λa o e =>
 (x a o e).stay (λb u _ q=>k b u q) (λ_ q=>q) λ_ _ q=>q
theorem HOk.laid(x:HOk P w H h)(k:∀b u,h.get? b=some u->h'.get? b=some u)(hp:h.objs.size<=a)(new:ObjOk P w (upd H a o) h' a o):HOk P w (upd H a o) h':=λb u e=>by
 have j:=x.fresh hp
 by_cases z:b=a
 ·subst z;rw[aQ6] at e;cases e;exact new
 ·rw[upd_ne z] at e;exact(x b u e).stay (λc v _ q=>k c v q) (λc q=>by rw[upd_ne (aQf q j)];exact q) λc xs q=>by rw[upd_ne (aQf q j)];exact q
end
def Rd(H:Hp)(a:Addr)(u:HO):Prop:=H a=some u\/∃o,H a=some (.frz o u)
theorem Rd.ok(r:Rd H a u)(x:HOk P w H h):ObjOk P w H h a u:=by
 rcases r with r|⟨o,r⟩
 ·exact x a u r
 ·obtain⟨_,q⟩:=x a _ r;exact q
def Mut:Option HO->Prop
 |some (.lst _)=>True
 |some (.dK _)=>True
 |some (.dT _)=>True
 |some (.set _ _)=>True
 |some (.ins _ _ _)=>True
 |some (.ext _)=>True
 |_=>False
section
variable{P:ax}{w:aK}{H:Hp}{h h':bb}{x e:Addr}{o':HO}
theorem HOk.write(ok:HOk P w H h)(mu:Mut (H x))(he:e=x\/H e=some (.own x))(k:∀b u,b≠e->h.get? b=some u->h'.get? b=some u)(heo:∃u,h'.get? e=some u)
  (new:ObjOk P w (upd H x o') h' x o'):HOk P w (upd H x o') h':=λb u q=>by
 have B:∀c y,H c=some (.own y)->c≠x:=λc y r z=>by subst z;rw[r] at mu;exact mu
 have ntup:∀c xs,H c=some (.tup xs)->c≠x:=λc xs r z=>by subst z;rw[r] at mu;exact mu
 by_cases G:b=x
 ·subst G;rw[aQ6] at q;cases q;exact new
 ·rw[upd_ne G] at q
  by_cases j:b=e
  ·have q':H b=some (.own x):=by
    rcases he with z|z
    ·exact absurd (j.trans z) G
    ·rw[j];exact z
   rw[q] at q';cases q';obtain⟨v,J⟩:=heo;exact⟨v,by rw[j];exact J⟩
  ·refine(ok b u q).stay (λc v D r=>k c v ?_ r) (λc r=>by rw[upd_ne (B c b r)];exact r) λc xs r=>by rw[upd_ne (ntup c xs r)];exact r
   rcases D with rfl|D
   ·exact j
   ·rintro rfl;rcases he with z|z
    ·exact B c b D z
    ·rw[D] at z;cases z;exact G rfl
end
structure Un(fs ex:List Addr)(H H':Hp)(h h':bb):Prop where
 keep:∀b o,h.get? b=some o->H b=none->b∉fs->b∉ex->h'.get? b=some o
 slot:∀b o,h.get? b=some o->H b=none->b∈fs->b∉ex->∃sl,h'.get? b=some {o with slots:=sl}
 free:∀b o,h.get? b=some o->H b=none->b∉ex->H' b=none
 there:∀b o,h.get? b=some o->b∉ex->∃o',h'.get? b=some o'
 tups:∀b xs,H b=some (.tup xs)->H' b=some (.tup xs)
 frzs:∀b o u,H b=some (.frz o u)->H' b=some (.frz o u)
 tbls:∀b ps,H b=some (.tbl ps)->∃more,H' b=some (.tbl (ps++more))
section
variable{fs fs' ex ex':List Addr}{H H1 H2:Hp}{h h1 h2 h':bb}{a x e:Addr}{o:HO}
theorem Un.any(u:Un fs ex H H1 h h1){b:Addr}{ob:Obj}(q:h.get? b=some ob)(n:H b=none)(hx:b∉ex):∃sl,h1.get? b=some {ob with slots:=sl}:=by
 by_cases j:b∈fs
 ·exact u.slot b ob q n j hx
 ·exact⟨ob.slots,u.keep b ob q n j hx⟩
theorem Un.kept(k:∀b u,h.get? b=some u->h'.get? b=some u):Un fs ex H H h h' :=
 ⟨λb j q _ _ _=>k b j q,λb j q _ _ _=>⟨j.slots,k b j q⟩,λ_ _ _ n _=>n,λb j q _=>⟨j,k b j q⟩,λ_ _ q=>q,λ_ _ _ q=>q,λ_ ps q=>⟨#[],by rw[q];simp⟩⟩
theorem Un.refl:Un fs ex H H h h:=Un.kept λ_ _ q=>q
theorem Un.laid(k:∀b u,h.get? b=some u->h'.get? b=some u)(hp:h.objs.size<=a)(hn:H a=none):Un fs ex H (upd H a o) h h' where
 keep:=λb u q _ _ _=>k b u q
 slot:=λb u q _ _ _=>⟨u.slots,k b u q⟩
 free:=λb u q n _=>by rw[upd_ne (Nat.ne_of_lt (Nat.lt_of_lt_of_le (aC q) hp))];exact n
 there:=λb u q _=>⟨u,k b u q⟩
 tups:=λb xs q=>by rw[upd_ne (aQf q hn)];exact q
 frzs:=λb u xs q=>by rw[upd_ne (aQf q hn)];exact q
 tbls:=λb ps q=>⟨#[],by rw[upd_ne (aQf q hn),q];simp⟩
theorem Un.write(mu:Mut (H x))(he:e=x\/H e=some (.own x))(k:∀b u,b≠e->h.get? b=some u->h'.get? b=some u)(heo:∃u,h'.get? e=some u):Un fs ex H (upd H x o) h h':=by
 have B:∀b,H b=none->b≠x:=λb n z=>by subst z;rw[n] at mu;exact mu
 have D:∀b,H b=none->b≠e:=λb n z=>by
  subst z;rcases he with r|r
  ·exact B b n r
  ·rw[n] at r;cases r
 have hm:∀b u,H b=some u->¬ Mut (some u)->b≠x:=λb u q nm z=>by subst z;rw[q] at mu;exact nm mu
 refine⟨λb u q n _ _=>k b u (D b n) q,λb u q n _ _=>⟨u.slots,k b u (D b n) q⟩,λb u q n _=>by rw[upd_ne (B b n)];exact n,λb u q _=>?_,
  λb xs q=>by rw[upd_ne (hm b _ q λz=>z)];exact q,λb u xs q=>by rw[upd_ne (hm b _ q λz=>z)];exact q,λb ps q=>⟨#[],by rw[upd_ne (hm b _ q λz=>z),q];simp⟩⟩
 by_cases j:b=e
 ·subst j;exact heo
 ·exact⟨u,k b u j q⟩
end
def trk(h:bb)(H:Hp):List Addr:=(a4 h.objs.size).filter λa=>(H a).isSome
def hidT(h:bb)(H:Hp):bb:=PySem.W.hideAll h (trk h H)
theorem cJj(h:bb)(H:Hp):(hidT h H).objs.size=h.objs.size:=PySem.W.hideAll_size _ _
theorem dXv(e:h.get? b=some o)(n:H b=none):(hidT h H).get? b=some o :=
 PySem.W.hideAll_get _ e λhm=>by
  have q:=(ao.mp hm).2;rw[n] at q;simp at q
theorem eZw(e:(hidT h H).get? b=some o):h.get? b=some o/\H b=none:=by
 have j:=PySem.W.of_hideAll (trk h H) e;refine⟨j,?_⟩;cases q:H b with
 |none=>rfl
 |some x =>
  have hm:b∈trk h H:=ao.mpr ⟨bf.mpr (aC j),by simp[q]⟩
  have z:(hidT h H).get? b=none:=PySem.W.hideAll_none (trk h H) hm;rw[z] at e;cases e
structure Mod(K:ar)(mg:Str->Option ab)(base:bb):Prop where
 kin:K.In base
 glob:base.Ns aX mg
 blt:∃mb,base.Ns ip mb/\∀x:Str,x ≠ "__name__"->mb x=cD x
 nolimit:base.NoLimit
structure Cx where
 prog:ax
 w:aK
 K:ar
 mg:Str->Option ab
 base:bb
 A:aU
 N:List Str
 s₀:ag
 H₀:Hp
 env:Env
 outer:List Env
 stack:List Env
 ex:List Addr
 fn:Str->Bool
 calm:Bool
 pn:List (Addr×Obj)
 xe:ab->ag->Prop
def frs(l:List Env):List Addr:=l.filterMap (·.frame)
abbrev Cx.fs(X:Cx):List Addr:=frs X.outer
def Vis(sc:Scope)(x:Str):Prop:=sc.names.lookup x=some .local\/sc.names.lookup x=some .cell\/sc.names.lookup x=some .free
def Loc(sc:Scope)(x:Str):Prop:=sc.names.lookup x=some .local\/sc.names.lookup x=some .cell
def Look(env:Env)(h:bb)(m:Str->Option ab)(x:Str)(u:ab):Prop :=
 (env.kindOf x=some .local/\m x=some u)\/((env.kindOf x=some .cell\/env.kindOf x=some .free)/\∃c,env.cells.lookup x=some c/\h.IsCell c (some u))
structure Cx.Ok(X:Cx):Prop where
 mod:Mod X.K X.mg X.base
 kind:X.env.scope.kind=.function
 glob:X.env.globals=aX
 blt:X.env.builtins=ip
 above:X.s₀.heap.objs.size<=X.env.locals
 inj:∀x y c,X.env.cells.lookup x=some c->X.env.cells.lookup y=some c->x=y
 has:∀x,(X.env.kindOf x=some .cell\/X.env.kindOf x=some .free)->∃c,X.env.cells.lookup x=some c
 cab:∀x c,X.fn x=true->X.env.cells.lookup x=some c->X.s₀.heap.objs.size<=c
 hd:X.calm=true->X.A.handled=none
 frames:X.A.frames=some X.stack
 gd:X.A.guards=some []
 stk:X.stack=X.outer\/(X.stack=X.env::X.outer/\X.env.frame=some X.env.locals)
 exf:∀b∈X.ex,b≠X.env.locals/\∀x c,X.env.cells.lookup x=some c->c≠b
 bs:∀b o,X.base.get? b=some o->X.s₀.heap.get? b=some o/\X.H₀ b=none
 bsz:X.base.objs.size<=X.s₀.heap.objs.size
 noex:∀b o,X.base.get? b=some o->b∉X.ex
 exfs:∀b∈X.ex,b∉X.fs
 funs:X.s₀.heap.FunFrames X.base X.outer
 frf:∀b∈X.fs,X.H₀ b=none
structure Inv(X:Cx)(pins:List (Addr×Obj))(σ:List (Option V))(H:Hp)(s:ag):Prop where
 ok:X.Ok
 os:s.os=X.s₀.os
 bare:js s.gens
 base:Un X.fs X.ex X.H₀ H X.s₀.heap s.heap
 loc:∃m,s.heap.Ns X.env.locals m/\∀(i:Nat) (x:Str) (v:V),X.N[i]?=some x->σ[i]?=some (some v)->Vis X.env.scope x->∃u,RelV v u/\Look X.env s.heap m x u
 cell:∀x c,X.env.cells.lookup x=some c->∃v,s.heap.IsCell c v
 free:H X.env.locals=none
 freeC:∀x c,X.env.cells.lookup x=some c->H c=none
 pin:∀p∈X.pn++pins,s.heap.get? p.1=some p.2/\H p.1=none/\p.1≠X.env.locals/\p.1∉X.fs/\∀v,p.2.data≠.cell v
 hok:HOk X.prog X.w H s.heap
 len:σ.length=X.N.length
section
variable{X:Cx}{pins:List (Addr×Obj)}{σ:List (Option V)}{H H':Hp}{s:ag}{h':bb}
theorem Cx.Ok.nofr(ok:X.Ok){b:Addr}{o:Obj}(e:X.base.get? b=some o):b∉X.fs:=λj=>by
 have:=(ok.funs.mem j).1
 rw[e] at this;cases this
theorem Inv.bs(I:Inv X pins σ H s):∀b o,X.base.get? b=some o->s.heap.get? b=some o/\H b=none:=λb o e =>
 ⟨I.base.keep b o (I.ok.bs b o e).1 (I.ok.bs b o e).2 (I.ok.nofr e) (I.ok.noex b o e),I.base.free b o (I.ok.bs b o e).1 (I.ok.bs b o e).2 (I.ok.noex b o e)⟩
theorem Inv.bk(I:Inv X pins σ H s):∀b o,X.base.get? b=some o->s.heap.get? b=some o:=λb o e=>(I.bs b o e).1
theorem Inv.mod(I:Inv X pins σ H s):Mod X.K X.mg X.base:=I.ok.mod
theorem Inv.kIn(I:Inv X pins σ H s):X.K.In s.heap:=I.ok.mod.kin.keeps I.bk
theorem Inv.nolimit(I:Inv X pins σ H s):s.heap.NoLimit:=I.ok.mod.nolimit.keeps I.bk
theorem Inv.lt(I:Inv X pins σ H s):X.env.locals<s.heap.objs.size:=let ⟨_,j,_⟩:=I.loc;j.lt
theorem Inv.sz(I:Inv X pins σ H s):X.s₀.heap.objs.size<=s.heap.objs.size:=Nat.le_trans I.ok.above (Nat.le_of_lt I.lt)
theorem Inv.nofs(I:Inv X pins σ H s){a:Addr}(h:s.heap.objs.size<=a):a∉X.fs:=λz=>by
 obtain⟨_,o,j,_⟩:=I.ok.funs.mem z;exact absurd (Nat.lt_of_lt_of_le (aC j) (Nat.le_trans I.sz h)) (Nat.lt_irrefl _)
theorem Inv.cne(I:Inv X pins σ H s):∀x c,X.env.cells.lookup x=some c->c≠X.env.locals:=λx c e z=>by
 obtain⟨v,o,ho,hd⟩:=I.cell x c e;obtain⟨m,⟨o',es,ep,j,B,_⟩,_⟩:=I.loc;rw[z,j] at ho;cases ho;rw[B] at hd;cases hd
theorem Inv.funs(I:Inv X pins σ H s):s.heap.FunFrames X.base X.outer:=by
 have all:∀(l:List Env),(∀b∈frs l,b∈X.fs)->X.s₀.heap.FunFrames X.base l->s.heap.FunFrames X.base l:=by
  intro l
  induction l with
  |nil=>intro _ _;trivial
  |cons env r D =>
   intro hs hl;obtain⟨U,⟨L,o,hf,O,J,hd⟩,G⟩:=hl;have B:=hs L (by unfold frs;rw[cK,hf];exact ai)
   obtain⟨sl,e⟩:=I.base.slot L o J (I.ok.frf L B) B λz=>I.ok.exfs L z B;exact⟨U,⟨L,_,hf,O,e,hd⟩,D (λb j=>hs b (by unfold frs;rw[cK,hf];exact ak _ j)) G⟩
 exact all X.outer (λ_ j=>j) I.ok.funs
theorem Inv.stack(I:Inv X pins σ H s):s.heap.FunFrames X.base X.stack:=by
 rcases I.ok.stk with e|⟨e,hf⟩
 ·rw[e];exact I.funs
 ·rw[e];obtain⟨m,j,_⟩:=I.loc;refine .cons (by rw[I.ok.kind];decide) hf j ?_ I.funs
  exact bb.get?_none_of_le (Nat.le_trans I.ok.bsz I.ok.above)
theorem Inv.stkSub(I:Inv X pins σ H s):∀b∈frs X.stack,b∈X.env.locals::X.fs:=λb j=>by
 rcases I.ok.stk with e|⟨e,hf⟩
 ·rw[e] at j;exact ak _ j
 ·rw[e] at j;unfold frs at j;rw[cK,hf] at j;exact j
theorem Inv.stkFree(I:Inv X pins σ H s):∀b∈frs X.stack,H b=none:=λb j=>by
 rcases av.mp (I.stkSub b j) with e|j
 ·rw[e];exact I.free
 ·obtain⟨_,o,B,_⟩:=I.ok.funs.mem j;exact I.base.free b o B (I.ok.frf b j) λz=>I.ok.exfs b z j
theorem Inv.step{ch:List Addr}(I:Inv X pins σ H s)
  (hch:∀b∈ch,(b∈X.ex\/X.s₀.heap.objs.size<=b)/\b≠X.env.locals/\(∀x c,X.env.cells.lookup x=some c->c≠b)/\∀p∈X.pn++pins,p.1≠b)
  (keep:∀b o,b≠X.env.locals->b∉X.fs->b∉ch->s.heap.get? b=some o->H b=none->h'.get? b=some o)
  (slot:∀b o,b≠X.env.locals->b∈X.fs->b∉ch->s.heap.get? b=some o->H b=none->∃sl,h'.get? b=some {o with slots:=sl}) (free:∀b o,b∉ch->s.heap.get? b=some o->H b=none->H' b=none)
  (there:∀b o,b∉ch->s.heap.get? b=some o->∃o',h'.get? b=some o')
  (tups:∀b xs,H b=some (.tup xs)->H' b=some (.tup xs)) (frzs:∀b o u,H b=some (.frz o u)->H' b=some (.frz o u)) (tbls:∀b ps,H b=some (.tbl ps)->∃more,H' b=some (.tbl (ps++more)))
  (ns:∀m,s.heap.Ns X.env.locals m->h'.Ns X.env.locals m) (hok:HOk X.prog X.w H' h') (hg:js g') :
  Inv X pins σ H' {s with heap:=h',gens:=g',drawn:=d',toks:=t'}:=by
 have U:∀b o,X.s₀.heap.get? b=some o->b≠X.env.locals:=λb o e=>Nat.ne_of_lt (Nat.lt_of_lt_of_le (aC e) I.ok.above);have D:∀b o,X.s₀.heap.get? b=some o->b∉X.ex->b∉ch:=λb o e j J=>by
  rcases(hch b J).1 with z|z
  ·exact j z
  ·exact absurd (Nat.lt_of_lt_of_le (aC e) z) (Nat.lt_irrefl _)
 have cellK:∀x c,X.env.cells.lookup x=some c->∀v,s.heap.IsCell c v->h'.IsCell c v:=λx c e v ⟨o,O,hd⟩=>by
  have B:=λz=>(hch c z).2.2.1 x c e rfl
  by_cases hc:c∈X.fs
  ·obtain⟨sl,q⟩:=slot c o (I.cne x c e) hc B O (I.freeC x c e);exact⟨_,q,hd⟩
  ·exact⟨o,keep c o (I.cne x c e) hc B O (I.freeC x c e),hd⟩
 refine⟨I.ok,I.os,hg,⟨λb o e n J j=>?_,λb o e n J j=>?_,λb o e n j=>?_,λb o e j=>?_,λb xs e=>tups b xs (I.base.tups b xs e),λb o xs e=>frzs b o xs (I.base.frzs b o xs e),λb ps e=>?_⟩,?_,λx c e=>?_,?_,λx c e=>?_,λp hp=>?_,hok,I.len⟩
 ·exact keep b o (U b o e) J (D b o e j) (I.base.keep b o e n J j) (I.base.free b o e n j)
 ·obtain⟨sl,G⟩:=I.base.slot b o e n J j;obtain⟨Z,Y⟩:=slot b _ (U b o e) J (D b o e j) G (I.base.free b o e n j);exact⟨Z,Y⟩
 ·obtain⟨o',G⟩:=I.base.there b o e j;exact free b o' (D b o e j) G (I.base.free b o e n j)
 ·obtain⟨o',G⟩:=I.base.there b o e j;exact there b o' (D b o e j) G
 ·obtain⟨m1,G⟩:=I.base.tbls b ps e;obtain⟨m2,Y⟩:=tbls b _ G;exact⟨m1++m2,by rw[Y,Array.append_assoc]⟩
 ·obtain⟨m,hn,hl⟩:=I.loc;refine⟨m,ns m hn,λi x v G Y e3=>?_⟩;obtain⟨u,r,l⟩:=hl i x v G Y e3;refine⟨u,r,?_⟩;rcases l with l|⟨k,c,e,z⟩
  ·exact .inl l
  ·exact .inr ⟨k,c,e,cellK x c e _ z⟩
 ·obtain⟨v,z⟩:=I.cell x c e;exact⟨v,cellK x c e v z⟩
 ·obtain⟨m,⟨o,_,_,O,_⟩,_⟩:=I.loc;exact free _ o (λz=>(hch _ z).2.1 rfl) O I.free
 ·obtain⟨v,o,O,hd⟩:=I.cell x c e;exact free c o (λz=>(hch c z).2.2.1 x c e rfl) O (I.freeC x c e)
 ·obtain⟨e,n,ne,nf,d⟩:=I.pin p hp;have B:=λz=>(hch p.1 z).2.2.2 p hp rfl;exact⟨keep p.1 p.2 ne nf B e n,free p.1 p.2 B e n,ne,nf,d⟩
theorem Inv.un(I:Inv X pins σ H s)(u:Un X.fs [] H H' s.heap h')(hok:HOk X.prog X.w H' h'):Inv X pins σ H' {s with heap:=h',toks:=t'}:=by
 obtain⟨m,⟨o,es,ep,G,r⟩,_⟩:=id I.loc;obtain⟨sl,O⟩:=u.any G I.free (by simp)
 exact I.step (ch:=[]) (λ_ z=>nomatch z) (λb o _ j _ e n=>u.keep b o e n j (by simp)) (λb o _ j _ e n=>u.slot b o e n j (by simp)) (λb o _ e n=>u.free b o e n (by simp)) (λb o _ e=>u.there b o e (by simp)) u.tups u.frzs u.tbls (λU hm=>by
  obtain⟨o',B,D,ho',J⟩:=hm;rw[G] at ho';cases ho';exact⟨_,B,D,O,J⟩) hok I.bare
theorem Inv.call(I:Inv X pins σ H s)(u:Un (frs X.stack) ch H H' s.heap h')(hok:HOk X.prog X.w H' h')(hg:js g')
  (hch:∀b∈ch,(b∈X.ex\/X.s₀.heap.objs.size<=b)/\b≠X.env.locals/\(∀x c,X.env.cells.lookup x=some c->c≠b)/\∀p∈X.pn++pins,p.1≠b) :
  Inv X pins σ H' {s with heap:=h',gens:=g',drawn:=d',toks:=t'}:=by
 obtain⟨m,⟨o,es,ep,J,r⟩,_⟩:=id I.loc;obtain⟨sl,B⟩:=u.any J I.free λz=>(hch _ z).2.1 rfl;exact I.step hch (λb o B U j e n=>u.keep b o e n (λz=>(av.mp (I.stkSub b z)).elim B U) j) (λb o _ _ j e n=>u.any e n j) (λb o j e n=>u.free b o e n j) (λb o j e=>u.there b o e j) u.tups u.frzs u.tbls (λY hm=>by
  obtain⟨o',D,G,ho',O⟩:=hm;rw[J] at ho';cases ho';exact⟨_,D,G,B,O⟩) hok hg
theorem Inv.turned(I:Inv X pins σ H s)(k:∀b o,b≠it->s.heap.get? b=some o->h'.get? b=some o)(hn:H it=none)(hL:it≠X.env.locals)
  (h1:it∈X.ex\/X.s₀.heap.objs.size<=it) (h2:∀x c,X.env.cells.lookup x=some c->c≠it) (h3:∀p∈X.pn++pins,p.1≠it):Inv X pins σ H {s with heap:=h',toks:=t'}:=by
 have B:∀b u,H b=some u->b≠it:=λb u e z=>by rw[z,hn] at e;cases e
 refine I.step (ch:=[it]) (λb G=>?_) (λb o _ _ j e _=>k b o (λz=>j (by simp[z])) e) (λb o _ _ j e _=>⟨o.slots,k b o (λz=>j (by simp[z])) e⟩) (λ_ _ _ _ n=>n)
  (λb o j e=>⟨o,k b o (λz=>j (by simp[z])) e⟩) (λ_ _ e=>e) (λ_ _ _ e=>e) (λb ps e=>⟨#[],by rw[e];simp⟩) (λm hm=>?_) (λb u e=>?_) I.bare
 ·have e:b=it:=by simpa using G
  subst e;exact⟨h1,hL,h2,h3⟩
 ·obtain⟨o,es,ep,D,r⟩:=hm;exact⟨o,es,ep,k _ o (cE hL) D,r⟩
 ·refine(I.hok b u e).stay (λc v j q=>k c v ?_ q) (λ_ q=>q) λ_ _ q=>q;rcases j with z|z
  ·rw[z];exact B b u e
  ·exact B c _ z
theorem Inv.tok(I:Inv X pins σ H s)(t:Nat):Inv X pins σ H {s with toks:=t}:=I.un Un.refl I.hok
theorem Inv.kept(I:Inv X pins σ H s)(k:∀b u,s.heap.get? b=some u->h'.get? b=some u):Inv X pins σ H {s with heap:=h',toks:=t'}:=I.un (Un.kept k) (I.hok.kept k)
theorem Inv.laid{a:Addr}(I:Inv X pins σ H s)(k:∀b u,s.heap.get? b=some u->h'.get? b=some u)(hp:s.heap.objs.size<=a)(new:ObjOk X.prog X.w (upd H a o) h' a o) :
  Inv X pins σ (upd H a o) {s with heap:=h',toks:=t'}:=I.un (Un.laid k hp (I.hok.fresh hp)) (I.hok.laid k hp new)
theorem Inv.write(I:Inv X pins σ H s)(mu:Mut (H x))(he:e=x\/H e=some (.own x))(k:∀b u,b≠e->s.heap.get? b=some u->h'.get? b=some u)(heo:∃u,h'.get? e=some u)
  (new:ObjOk X.prog X.w (upd H x o) h' x o):Inv X pins σ (upd H x o) {s with heap:=h',toks:=t'}:=I.un (Un.write mu he k heo) (I.hok.write mu he k heo new)
theorem Inv.weak(I:Inv X pins σ H s)(hl:σ'.length=σ.length)(w:∀(i:Nat) v,σ'[i]?=some (some v)->σ[i]?=some (some v)):Inv X pins σ' H s :=
 ⟨I.ok,I.os,I.bare,I.base,let ⟨m,z,j⟩:=I.loc;⟨m,z,λi x v G D B=>j i x v G (w i v D) B⟩,I.cell,I.free,I.freeC,I.pin,I.hok,hl.trans I.len⟩
theorem Inv.pins_of(I:Inv X pins σ H s)(h:∀p∈pins',s.heap.get? p.1=some p.2/\H p.1=none/\p.1≠X.env.locals/\p.1∉X.fs/\∀v,p.2.data≠.cell v):Inv X pins' σ H s :=
 ⟨I.ok,I.os,I.bare,I.base,I.loc,I.cell,I.free,I.freeC,λp j=>(aY.mp j).elim (λz=>I.pin p (cZ _ z)) (h p),I.hok,I.len⟩
theorem nodup_ix{N:List Str}(hN:N.Nodup){i j:Nat}{x:Str}(a:N[i]?=some x)(b:N[j]?=some x):i=j:=by
 obtain⟨h1,B⟩:=aH.mp a;obtain⟨h2,z⟩:=aH.mp b;exact(List.getElem_inj hN).mp (B.trans z.symm)
theorem bJ6(I:Inv X pins σ H s)(hN:X.N.Nodup)(hi:X.N[i]?=some x)(hx:Loc X.env.scope x)(r:RelV v u)
  (h:∀s',Inv X pins (σ.set i (some v)) H s'->(∃a,dj a s.heap s'.heap/\(a=X.env.locals\/X.env.cells.lookup x=some a))->Q () s') (hf:X.fn x=true\/X.env.scope.names.lookup x=some .local:=by first|exact .inl rfl|exact .inr rfl|assumption):aE M A (storeName X.env x u) Q E s:=by
 obtain⟨m,hn,hl⟩:=id I.loc;have Y:(X.env.scope.kind ==.class||(X.env.scope.kind ==.module&&X.env.locals !=X.env.globals))=false:=by rw[I.ok.kind];rfl
 have hiσ:i<σ.length:=by rw[I.len];exact(aH.mp hi).1
 have cne:=I.cne;have tracked:∀{a:Addr}{h':bb},(∃o,s.heap.get? a=some o/\H a=none)->dj a s.heap h'->HOk X.prog X.w H h':=λ{a h'} ha hs b ob e=>by
  obtain⟨_,_,B⟩:=ha;refine(I.hok b ob e).stay (λc w' hc q=>(hs.2 c ?_).trans q) (λ_ q=>q) λ_ _ q=>q;rintro rfl;rcases hc with rfl|hc
  ·rw[B] at e;cases e
  ·rw[B] at hc;cases hc
 rcases hx with hk|hk
 ·refine wpAny_storeName_local hk hn (λh' hn' hs=>?_) Y;obtain⟨oL,_,_,hoL,_⟩:=id hn;refine h _ ⟨I.ok,I.os,I.bare,⟨λb o e n J hx=>?_,λb o e n J hx=>?_,I.base.free,λb o e hx=>?_,I.base.tups,I.base.frzs,I.base.tbls⟩,⟨_,hn',λj y v' e1 e2 e3=>?_⟩,λy c e=>?_,I.free,I.freeC,λp hp=>?_,tracked ⟨oL,hoL,I.free⟩ hs,by simpa using I.len⟩ ⟨_,hs,.inl rfl⟩
  ·exact(hs.2 b (Nat.ne_of_lt (Nat.lt_of_lt_of_le (aC e) I.ok.above))).trans (I.base.keep b o e n J hx)
  ·obtain⟨sl,e1⟩:=I.base.slot b o e n J hx;exact⟨sl,(hs.2 b (Nat.ne_of_lt (Nat.lt_of_lt_of_le (aC e) I.ok.above))).trans e1⟩
  ·obtain⟨o',e1⟩:=I.base.there b o e hx;exact⟨o',(hs.2 b (Nat.ne_of_lt (Nat.lt_of_lt_of_le (aC e) I.ok.above))).trans e1⟩
  ·by_cases D:j=i
   ·subst D;rw[hi] at e1;cases e1;rw[List.getElem?_set_self hiσ] at e2;cases e2;exact⟨u,r,.inl ⟨hk,by simp⟩⟩
   ·rw[f8 (cE D)] at e2;obtain⟨u',r',q⟩:=hl j y v' e1 e2 e3;refine⟨u',r',?_⟩;rcases q with⟨k,e⟩|⟨k,c,e,z⟩
    ·refine .inl ⟨k,?_⟩
     have:y≠x:=λe=>D (nodup_ix hN e1 (e▸hi))
     simp[this,e]
    ·exact .inr ⟨k,c,e,z.sameBut hs (cne y c e)⟩
  ·obtain⟨w',z⟩:=I.cell y c e;exact⟨w',z.sameBut hs (cne y c e)⟩
  ·obtain⟨e,n,ne,nf,d⟩:=I.pin p hp;exact⟨(hs.2 p.1 ne).trans e,n,ne,nf,d⟩
 ·have G:X.fn x=true:=by
   rcases hf with z|z
   ·exact z
   ·rw[z] at hk;cases hk
  obtain⟨c,hc⟩:=I.ok.has x (.inl hk);obtain⟨w',z⟩:=I.cell x c hc;refine wpAny_storeName_cell I.ok.kind hk hc z (λh' hc' hs=>?_);obtain⟨oc,U,O⟩:=id z;refine h {s with heap:=h'} ⟨I.ok,I.os,I.bare,⟨λb o e n J hx=>?_,λb o e n J hx=>?_,I.base.free,λb o e hx=>?_,I.base.tups,I.base.frzs,I.base.tbls⟩,⟨m,hn.sameBut hs (cE (cne x c hc)),λj y v' e1 e2 e3=>?_⟩,λy c' e=>?_,I.free,I.freeC,λp hp=>?_,tracked ⟨oc,U,I.freeC x c hc⟩ hs,by simpa using I.len⟩ ⟨c,hs,.inr hc⟩
  ·exact(hs.2 b (Nat.ne_of_lt (Nat.lt_of_lt_of_le (aC e) (I.ok.cab x c G hc)))).trans (I.base.keep b o e n J hx)
  ·obtain⟨sl,e1⟩:=I.base.slot b o e n J hx;exact⟨sl,(hs.2 b (Nat.ne_of_lt (Nat.lt_of_lt_of_le (aC e) (I.ok.cab x c G hc)))).trans e1⟩
  ·obtain⟨o',e1⟩:=I.base.there b o e hx;exact⟨o',(hs.2 b (Nat.ne_of_lt (Nat.lt_of_lt_of_le (aC e) (I.ok.cab x c G hc)))).trans e1⟩
  ·by_cases D:j=i
   ·subst D;rw[hi] at e1;cases e1;rw[List.getElem?_set_self hiσ] at e2;cases e2;exact⟨u,r,.inr ⟨.inl hk,c,hc,hc'⟩⟩
   ·rw[f8 (cE D)] at e2;obtain⟨u',r',q⟩:=hl j y v' e1 e2 e3;refine⟨u',r',?_⟩;rcases q with q|⟨k,c',e,z'⟩
    ·exact .inl q
    ·refine .inr ⟨k,c',e,z'.sameBut hs ?_⟩;rintro rfl;exact D (nodup_ix hN e1 (I.ok.inj _ _ _ e hc▸hi))
  ·by_cases Z:c'=c
   ·subst Z;exact⟨_,hc'⟩
   ·obtain⟨w2,z2⟩:=I.cell y c' e;exact⟨w2,z2.sameBut hs Z⟩
  ·obtain⟨e,n,ne,nf,d⟩:=I.pin p hp;refine⟨(hs.2 p.1 ?_).trans e,n,ne,nf,d⟩;intro q;rw[q,U] at e;have q':=a7 e;exact d w' (by rw[<- q'];exact O)
theorem store_ok(I:Inv X pins σ H s)(hN:X.N.Nodup)(hi:X.N[i]?=some x)(hx:Loc X.env.scope x)(r:RelV v u)
  (h:∀s',Inv X pins (σ.set i (some v)) H s'->Q () s') (hf:X.fn x=true\/X.env.scope.names.lookup x=some .local:=by first|exact .inl rfl|exact .inr rfl|assumption):aE M A (storeName X.env x u) Q E s :=
 bJ6 I hN hi hx r (λs' j _=>h s' j) hf
theorem Inv.call'(I:Inv X pins σ H s)(ho:s'.os=s.os)(u:Un (frs X.stack) ch H H' s.heap s'.heap)(hok:HOk X.prog X.w H' s'.heap)(hg:js s'.gens)
  (hch:∀b∈ch,(b∈X.ex\/X.s₀.heap.objs.size<=b)/\b≠X.env.locals/\(∀x c,X.env.cells.lookup x=some c->c≠b)/\∀p∈X.pn++pins,p.1≠b):Inv X pins σ H' s':=by
 obtain⟨h',g',d',t',o'⟩:=s';have e:=ho;subst e;exact I.call u hok hg hch
end
abbrev XK:=ab->Option Addr->Hp->Prop
abbrev St:=List (Option V)
abbrev VK:=V->Hp->Prop
abbrev TE:=St->Hp->VK->Prop
abbrev TT:=St->Hp->(Bool->Hp->Prop)->Prop
abbrev TA:=St->Hp->(List V->Hp->Prop)->Prop
structure Ends where
 nx:St->Hp->Prop
 rt:VK
 bk:St->Hp->Prop:=λ_ _=>False
 ct:St->Hp->Prop:=λ_ _=>False
abbrev TS:=Ends->St->Hp->Prop
def EP(X:Cx)(pins:List (Addr×Obj))(σ:St)(Q:VK)(u:ab)(s':ag):Prop:=∃v H',Inv X pins σ H' s'/\RelV v u/\Q v H'
def TP(X:Cx)(pins:List (Addr×Obj))(σ:St)(Q:Bool->Hp->Prop)(b:Bool)(s':ag):Prop:=∃H',Inv X pins σ H' s'/\Q b H'
def AP(X:Cx)(pins:List (Addr×Obj))(σ:St)(Q:List V->Hp->Prop)(us:List ab)(s':ag):Prop:=∃vs H',Inv X pins σ H' s'/\Vals vs us/\Q vs H'
def SP(X:Cx)(pins:List (Addr×Obj))(D:Ends)(f:Flow)(s':ag):Prop :=
 match f with
 |.next=>∃σ' H',Inv X pins σ' H' s'/\D.nx σ' H'
 |.brk=>∃σ' H',Inv X pins σ' H' s'/\D.bk σ' H'
 |.cont=>∃σ' H',Inv X pins σ' H' s'/\D.ct σ' H'
 |.ret u=>∃v σ' H',Inv X pins σ' H' s'/\RelV v u/\D.rt v H'
def PE(X:Cx)(e:Expr)(t:TE):Prop :=
 ∀(pins:List (Addr×Obj)) (s:ag) (σ:St) (H:Hp) (Q:VK),Inv X pins σ H s->t σ H Q->aE (aF X.prog X.w) X.A (eval e X.env) (EP X pins σ Q) X.xe s
def PT(X:Cx)(e:Expr)(t:TT):Prop :=
 ∀(pins:List (Addr×Obj)) (s:ag) (σ:St) (H:Hp) (Q:Bool->Hp->Prop),Inv X pins σ H s->t σ H Q->aE (aF X.prog X.w) X.A (isTrue e X.env (eval e X.env)) (TP X pins σ Q) X.xe s
def PW(X:Cx)(e:Expr)(t:TT):Prop :=
 ∀(whole:Sem ab) (pins:List (Addr×Obj)) (s:ag) (σ:St) (H:Hp) (Q:Bool->Hp->Prop),Inv X pins σ H s->t σ H Q->aE (aF X.prog X.w) X.A (isTrue e X.env whole) (TP X pins σ Q) X.xe s
theorem PW.pt(h:PW X e t):PT X e t:=h _
def PA(X:Cx)(es:List Expr)(t:TA):Prop :=
 ∀(pos:Pos) (pins:List (Addr×Obj)) (s:ag) (σ:St) (H:Hp) (Q:List V->Hp->Prop),Inv X pins σ H s->t σ H Q->aE (aF X.prog X.w) X.A (spliced (cM pos (aD es X.env))) (AP X pins σ Q) X.xe s
def PS(X:Cx)(st:Stmt)(t:TS):Prop :=
 ∀(pins:List (Addr×Obj)) (s:ag) (σ:St) (H:Hp) (D:Ends),Inv X pins σ H s->t D σ H->aE (aF X.prog X.w) X.A (exec st X.env) (SP X pins D) X.xe s
def PSs(X:Cx)(st:List Stmt)(t:TS):Prop :=
 ∀(pins:List (Addr×Obj)) (s:ag) (σ:St) (H:Hp) (D:Ends),Inv X pins σ H s->t D σ H->aE (aF X.prog X.w) X.A (execs st X.env) (SP X pins D) X.xe s
theorem thn{t:Sem α}{Q Q':α->ag->Prop}(h:aE M A t Q E s)(hQ:∀a s,Q a s->Q' a s):aE M A t Q' E s:=dw h hQ λ_ _ x=>x
section
variable{X:Cx}
def tVar(i:Nat):TE:=fun σ H Q=>∃v,σ[i]?=some (some v)/\Q v H
def tC(v:V):TE:=λ_ H Q=>Q v H
theorem fZf{pos:Pos}(hN:X.N[i]?=some x)(hv:Vis X.env.scope x)(hd:(x=="__debug__")=false:=by decide)(hcd:(x=="__classdict__")=false:=by decide):PE X (.Name x pos) (tVar i):=by
 intro pins s σ H Q I h;obtain⟨v,e,h⟩:=h;obtain⟨m,D,hl⟩:=I.loc;obtain⟨u,r,l⟩:=hl i x v hN e hv;have fin:EP X pins σ Q u s:=⟨v,H,I,r,h⟩;rcases l with⟨z,hm⟩|⟨z,c,B,j⟩
 ·exact gR (f9 I.ok.kind z D hm fin) hd
 ·rcases z with z|z
  ·exact gR (wpAny_loadName_cell I.ok.kind z B j fin) hd
  ·exact gR (wpAny_loadName_free I.ok.kind z B j fin hcd) hd
theorem fZg:PE X (.Constant (.int i) j pos) (tC (.int i)):=λ_ _ _ H _ I h=>wpAny_Constant_int ⟨.int i,H,I.tok _,⟨_,rfl⟩,h⟩
theorem gZa:PE X (.Constant (.bool b) j pos) (tC (.bl b)):=λ_ _ _ H _ I h=>Constant_bool ⟨.bl b,H,I,rfl,h⟩
theorem fZh:PE X (.Constant .none j pos) (tC .non):=λ_ _ _ H _ I h=>Constant_none ⟨.non,H,I,rfl,h⟩
theorem fZi:PE X (.Constant (.str x) j pos) (tC (.str x)):=λ_ _ _ H _ I h=>Calls.Constant_str ⟨.str x,H,I.tok _,⟨_,rfl⟩,h⟩
def Gl(X:Cx)(x:Str):Prop:=X.env.kindOf x=some .globalImplicit
theorem ld_glob{σ:St}(I:Inv X pins σ H s)(hg:Gl X x)(hm:X.mg x=some u)(h:Q u s)
  (hd:(x=="__debug__")=false:=by decide):aE (aF X.prog X.w) X.A (eval (.Name x pos) X.env) Q E s :=
 ga I.ok.kind hg (Calls.loadGlobal_global (by rw[I.ok.glob];exact I.mod.glob.keeps I.bk) hm h) hd
theorem ld_blt{E:ab->ag->Prop}{σ:St}{pos:Pos}(I:Inv X pins σ H s)(hg:Gl X x)(hm:X.mg x=none)(hv:cD x=some u)(h:Q u s)
  (hn:x ≠ "__name__":=by decide) (hd:(x=="__debug__")=false:=by decide):aE (aF X.prog X.w) X.A (eval (.Name x pos) X.env) Q E s:=by
 obtain⟨mb,h1,h2⟩:=I.mod.blt;exact ga I.ok.kind hg (jA (by rw[I.ok.glob];exact I.mod.glob.keeps I.bk) hm (by rw[I.ok.blt];exact h1.keeps I.bk) ((h2 x hn).trans hv) h) hd
theorem eZx(hg:Gl X x)(hm:X.mg x=some u)(r:RelV v u)(hd:(x=="__debug__")=false:=by decide):PE X (.Name x pos) (tC v) :=
 λ_ _ _ H _ I h=>ld_glob I hg hm ⟨v,H,I,r,h⟩ hd
variable{a b:Expr}{ta tb:TE}{pos:Pos}
variable{tA tB':TT}{rest:List Expr}
def tAnd(t u:TT):TT:=fun σ H Q=>t σ H λc H1=>if c=true then u σ H1 Q else Q false H1
def tOr(t u:TT):TT:=fun σ H Q=>t σ H λc H1=>if c=true then Q true H1 else u σ H1 Q
def tNot(t:TT):TT:=fun σ H Q=>t σ H λc H1=>Q (!c) H1
theorem eZy(ha:PT X a tA):PW X (.BoolOp .And [a] pos) tA:=by
 intro j pins s σ H Q I h;refine isTrue_and (thn (ha pins s σ H Q I h) λc s1 e=>?_);cases c with
 |true=>exact isTrue_and_nil e
 |false=>exact e
theorem fZj(ha:PT X a tA):PW X (.BoolOp .Or [a] pos) tA:=by
 intro j pins s σ H Q I h;refine isTrue_or (thn (ha pins s σ H Q I h) λc s1 e=>?_);cases c with
 |false=>exact isTrue_or_nil e
 |true=>exact e
theorem fZk(ha:PT X a tA)(hb:PW X (.BoolOp .And (b::rest) pos) tB'):PW X (.BoolOp .And (a::b::rest) pos) (tAnd tA tB'):=by
 intro B pins s σ H Q I h;refine isTrue_and (thn (ha pins s σ H _ I h) λc s1 ⟨H1,z,j⟩=>?_);cases c with
 |true=>exact hb B pins s1 σ H1 Q z j
 |false=>exact⟨H1,z,j⟩
theorem gZb(ha:PT X a tA)(hb:PW X (.BoolOp .Or (b::rest) pos) tB'):PW X (.BoolOp .Or (a::b::rest) pos) (tOr tA tB'):=by
 intro B pins s σ H Q I h;refine isTrue_or (thn (ha pins s σ H _ I h) λc s1 ⟨H1,z,j⟩=>?_);cases c with
 |true=>exact⟨H1,z,j⟩
 |false=>exact hb B pins s1 σ H1 Q z j
theorem fZl(ha:PT X a tA):PT X (.UnaryOp .Not a pos) (tNot tA):=by
 intro pins s σ H Q I h;exact isTrue_not (ha pins s σ H (λc H1=>Q (!c) H1) I h)
def gZc(ta tb:TE):TE:=fun σ H Q=>ta σ H λx H1=>∃c,x=.bl c/\if c=true then tb σ H1 Q else Q (.bl false) H1
def tOrV(ta tb:TE):TE:=fun σ H Q=>ta σ H λx H1=>∃c,x=.bl c/\if c=true then Q (.bl true) H1 else tb σ H1 Q
theorem fZm(h:PE X a t):PE X (.BoolOp op [a] pos) t:=λpins s σ H Q I hw=>BoolOp_one (h pins s σ H Q I hw)
theorem fZn(ha:PE X a ta)(hb:PE X (.BoolOp .And (b::rest) pos) tb):PE X (.BoolOp .And (a::b::rest) pos) (gZc ta tb):=by
 intro pins s σ H Q I h;refine BoolOp_and (thn (ha pins s σ H _ I h) λv s1 ⟨x,H1,z,r1,j⟩=>?_);obtain⟨c,rfl,j⟩:=j;cases r1;refine cU ?_;cases c with
 |true=>exact hb pins s1 σ H1 Q z j
 |false=>exact⟨.bl false,H1,z,rfl,j⟩
theorem gZd(ha:PE X a ta)(hb:PE X (.BoolOp .Or (b::rest) pos) tb):PE X (.BoolOp .Or (a::b::rest) pos) (tOrV ta tb):=by
 intro pins s σ H Q I h;refine BoolOp_or (thn (ha pins s σ H _ I h) λv s1 ⟨x,H1,z,r1,j⟩=>?_);obtain⟨c,rfl,j⟩:=j;cases r1;refine cU ?_;cases c with
 |false=>exact hb pins s1 σ H1 Q z j
 |true=>exact⟨.bl true,H1,z,rfl,j⟩
def tIf(t:TT)(ta tb:TE):TE:=fun σ H Q=>t σ H λc H1=>if c=true then ta σ H1 Q else tb σ H1 Q
theorem dXw(hc:PT X c tA)(ha:PE X a ta)(hb:PE X b tb):PE X (.IfExp c a b pos) (tIf tA ta tb):=by
 intro pins s σ H Q I h;refine wpAny_IfExp (thn (hc pins s σ H _ I h) λd s1 ⟨H1,z,j⟩=>?_);cases d with
 |true=>exact ha pins s1 σ H1 Q z j
 |false=>exact hb pins s1 σ H1 Q z j
end
def SqL(K:ar)(H:Hp)(a:Addr)(xs:List V):Prop :=
 Rd H a (.lst xs) \/
  ∃(o:Obj) (its:Array ab) (n:Nat),K.lookup a=some o/\o.cls=.type "list"/\o.dict=none/\o.data=.seq its n/\its.size<=sizeLine/\Vals xs its.toList
def SqT(K:ar)(H:Hp)(a:Addr)(xs:List V):Prop :=
 Rd H a (.tup xs) \/
  ∃(o:Obj) (its:Array ab) (n:Nat),K.lookup a=some o/\o.cls=.type "tuple"/\o.dict=none/\o.data=.seq its n/\its.size<=sizeLine/\Vals xs its.toList
def absV:ab->Option V
 |.none=>some .non
 |.bool b=>some (.bl b)
 |.int i _=>some (.int i)
 |.str x _=>some (.str x)
 |.bytes b _=>some (.byt b)
 |.float b _=>some (.flt b)
 |.ref a=>some (.ref a)
 |.type n=>some (.ty n)
 |_=>none
theorem RelV.abs(r:RelV x u):absV u=some x:=by
 cases x with
 |non=>cases r;rfl
 |bl _=>cases r;rfl
 |int _=>obtain⟨t,rfl⟩:=r;rfl
 |str _=>obtain⟨t,rfl⟩:=r;rfl
 |byt _=>obtain⟨t,rfl⟩:=r;rfl
 |flt _=>obtain⟨t,rfl⟩:=r;rfl
 |ref _=>cases r;rfl
 |ty _=>cases r;rfl
theorem RelV.inj(r:RelV x u)(q:RelV y u):x=y:=a7 (r.abs.symm.trans q.abs)
theorem Vals.inj:∀{xs ys:List V}{us:List ab},Vals xs us->Vals ys us->xs=ys
 |_,_,_,.nil,.nil=>rfl
 |_,_,_,.cons r t,.cons z j=>by rw[r.inj z,Vals.inj t j]
section
variable{X:Cx}{pins:List (Addr×Obj)}{σ:St}{H:Hp}{s:ag}{a:Addr}{xs ys:List V}
theorem SqL.of{K:ar}(h:H a=some (.lst xs)):SqL K H a xs:=.inl (.inl h)
theorem Inv.list(I:Inv X pins σ H s)(h:SqL X.K H a xs):∃its:List ab,Vals xs its/\PlainL s.heap a its.toArray/\xs.length<=sizeLine:=by
 rcases h with h|⟨o,its,n,j,B,hd,hs,D,r⟩
 ·obtain⟨z,its,n,r,e⟩:=h.ok I.hok;exact⟨its,r,⟨_,n,e,rfl,rfl,rfl⟩,z⟩
 ·refine⟨its.toList,r,⟨o,n,I.kIn a o j,B,hd,by simpa using hs⟩,?_⟩
  have e:=r.length;simp only[aW] at e;lia
theorem Inv.tuple(I:Inv X pins σ H s)(h:SqT X.K H a xs):∃its:List ab,Vals xs its/\gE s.heap a its.toArray/\xs.length<=sizeLine:=by
 rcases h with h|⟨o,its,n,j,B,_,hs,D,r⟩
 ·obtain⟨z,its,r,p,_⟩:=h.ok I.hok;exact⟨its,r,p,z⟩
 ·refine⟨its.toList,r,⟨o,I.kIn a o j,B,n,by simpa using hs⟩,?_⟩
  have e:=r.length;simp only[aW] at e;lia
theorem Inv.list_inj(I:Inv X pins σ H s)(h:SqL X.K H a xs)(h':SqL X.K H a ys):xs=ys:=by
 obtain⟨j,r,⟨o,n,e,_,_,d⟩,_⟩:=I.list h;obtain⟨its',B,⟨o',G,e',_,_,z⟩,_⟩:=I.list h';rw[e] at e';cases e';rw[d] at z;injection z with D _
 have:j=its':=by simpa using congrArg Array.toList D
 subst this;exact r.inj B
theorem Inv.tuple_inj(I:Inv X pins σ H s)(h:SqT X.K H a xs)(h':SqT X.K H a ys):xs=ys:=by
 obtain⟨j,r,⟨o,e,_,n,d⟩,_⟩:=I.tuple h;obtain⟨its',B,⟨o',e',_,G,z⟩,_⟩:=I.tuple h';rw[e] at e';cases e';rw[d] at z;injection z with D _
 have:j=its':=by simpa using congrArg Array.toList D
 subst this;exact r.inj B
end
abbrev Cx.wish(X:Cx)(E:ab->ag->Prop):Cx:={X with xe:=E}
abbrev Cx.nox(X:Cx):Cx:=X.wish λ_ _=>False
theorem Cx.Ok.wish{X:Cx}(ok:X.Ok)(E:ab->ag->Prop):(X.wish E).Ok :=
 ⟨ok.mod,ok.kind,ok.glob,ok.blt,ok.above,ok.inj,ok.has,ok.cab,ok.hd,ok.frames,ok.gd,ok.stk,ok.exf,ok.bs,ok.bsz,ok.noex,ok.exfs,ok.funs,ok.frf⟩
theorem Cx.Ok.unwish{X:Cx}(ok:(X.wish E).Ok):X.Ok :=
 ⟨ok.mod,ok.kind,ok.glob,ok.blt,ok.above,ok.inj,ok.has,ok.cab,ok.hd,ok.frames,ok.gd,ok.stk,ok.exf,ok.bs,ok.bsz,ok.noex,ok.exfs,ok.funs,ok.frf⟩
section
variable{X:Cx}{pins:List (Addr×Obj)}{σ:St}{H:Hp}{s:ag}{E:ab->ag->Prop}
theorem Inv.wish(I:Inv X pins σ H s)(E:ab->ag->Prop):Inv (X.wish E) pins σ H s:=⟨I.ok.wish E,I.os,I.bare,I.base,I.loc,I.cell,I.free,I.freeC,I.pin,I.hok,I.len⟩
theorem Inv.unwish(I:Inv (X.wish E) pins σ H s):Inv X pins σ H s:=⟨I.ok.unwish,I.os,I.bare,I.base,I.loc,I.cell,I.free,I.freeC,I.pin,I.hok,I.len⟩
theorem SP.unwish(h:SP (X.wish E) pins D f s'):SP X pins D f s':=by
 cases f with
 |next=>obtain⟨σ',H',I,q⟩:=h;exact⟨σ',H',I.unwish,q⟩
 |brk=>obtain⟨σ',H',I,q⟩:=h;exact⟨σ',H',I.unwish,q⟩
 |cont=>obtain⟨σ',H',I,q⟩:=h;exact⟨σ',H',I.unwish,q⟩
 |ret u=>obtain⟨v,σ',H',I,r,q⟩:=h;exact⟨v,σ',H',I.unwish,r,q⟩
theorem PSs.nox{st:List Stmt}(h:PSs X.nox st t):PSs X st t:=λpins s σ H D I hw =>
 dw (h pins s σ H D (I.wish _) hw) (λ_ _ q=>q.unwish) λ_ _ z=>d5 z
end
section
variable{X:Cx}{st:Stmt}{rest:List Stmt}{t u:TS}{e:Expr}{te:TE}{pos:Pos}
def gZe:TS:=λD σ H=>D.nx σ H
def tSeq(t u:TS):TS:=λD σ H=>t {D with nx:=u D} σ H
theorem eZz:PSs X [] gZe:=λ_ _ σ H _ I h=>wpAny_execs_nil ⟨σ,H,I,h⟩
theorem cZ4(h1:PS X st t)(h2:PSs X rest u):PSs X (st::rest) (tSeq t u):=by
 intro pins s σ H D I h;refine wpAny_execs_cons (thn (h1 pins s σ H {D with nx:=u D} I h) λf s1 q=>?_)
 cases f with
 |next =>
  obtain⟨σ',H',j,q⟩:=q;exact h2 pins s1 σ' H' D j q
 |ret v=>exact q
 |brk=>exact q
 |cont=>exact q
theorem eX0(h1:PS X st t):PSs X [st] t:=by
 intro pins s σ H D I h;refine wpAny_execs_cons (thn (h1 pins s σ H D I h) λf s1 q=>?_);cases f with
 |next=>exact wpAny_execs_nil q
 |ret v=>exact q
 |brk=>exact q
 |cont=>exact q
theorem Inv.quiet{σ:St}(I:Inv X pins σ H s):interactive X.env=false:=by simp[interactive,I.ok.kind]
def gZf(te:TE):TS:=λD σ H=>te σ H λ_ H1=>D.nx σ H1
theorem eX1(he:PE X e te)(hs:iq e none pos.line X.env=pure false:=by rfl):PS X (.Expr e pos) (gZf te):=by
 intro pins s σ H D I h;exact wpAny_Expr_any (thn (he pins s σ H _ I h) λv s1 ⟨x,H1,z,B,j⟩=>⟨σ,H1,z,j⟩) I.quiet hs
def tRet(te:TE):TS:=λD σ H=>te σ H D.rt
theorem fZo(he:PE X e te):PS X (.Return (some e) pos) (tRet te):=by
 intro pins s σ H D I h;exact wpAny_Return_some (thn (he pins s σ H _ I h) λv s1 ⟨x,H1,B,j,z⟩=>⟨x,σ,H1,B,j,z⟩)
def tIfS(c:TT)(t u:TS):TS:=λD σ H=>c σ H λb H1=>if b=true then t D σ H1 else u D σ H1
theorem gZg(hc:PT X c tc)(ha:PSs X a t)(hb:PSs X b u):PS X (.If c a b pos) (tIfS tc t u):=by
 intro pins s σ H D I h;refine wpAny_If (thn (hc pins s σ H _ I h) λd s1 ⟨H1,z,j⟩=>?_);cases d with
 |true=>exact ha pins s1 σ H1 D z j
 |false=>exact hb pins s1 σ H1 D z j
end
abbrev TG:=V->St->Hp->(St->Hp->Prop)->Prop
abbrev TGs:=List V->St->Hp->(St->Hp->Prop)->Prop
def PG(X:Cx)(target:Expr)(t:TG):Prop :=
 ∀(pins:List (Addr×Obj)) (s:ag) (σ:St) (H:Hp) (v:V) (u:ab) (Q:St->Hp->Prop),Inv X pins σ H s->RelV v u->t v σ H Q ->
  aE (aF X.prog X.w) X.A (jB target X.env u) (λ_ s'=>∃σ' H',Inv X pins σ' H' s'/\Q σ' H') X.xe s
def PGs(X:Cx)(ts:List Expr)(t:TGs):Prop :=
 ∀(pins:List (Addr×Obj)) (s:ag) (σ:St) (H:Hp) (vs:List V) (us:List ab) (Q:St->Hp->Prop),Inv X pins σ H s->Vals vs us->t vs σ H Q ->
  aE (aF X.prog X.w) X.A (assignInOrder ((fq ts X.env).map (·.2)) us) (λ_ s'=>∃σ' H',Inv X pins σ' H' s'/\Q σ' H') X.xe s
section
variable{X:Cx}{pos:Pos}
def bZ6(i:Nat):TG:=λv σ H Q=>Q (σ.set i (some v)) H
theorem aQa(hN:X.N.Nodup)(hi:X.N[i]?=some x)(hx:Loc X.env.scope x)(hf:X.fn x=true\/X.env.scope.names.lookup x=some .local:=by first|exact .inl rfl|exact .inr rfl|assumption):PG X (.Name x pos) (bZ6 i):=by
 intro pins s σ H v u Q I r h;exact wpAny_assign_Name (store_ok I hN hi hx r (λs' j=>⟨_,H,j,h⟩) hf)
def gNil:TGs:=λvs σ H Q=>vs=[]/\Q σ H
def cQ8(t:TG)(u:TGs):TGs:=λvs σ H Q=>∃v r,vs=v::r/\t v σ H fun σ' H'=>u r σ' H' Q
theorem bZy:PGs X [] gNil:=by
 intro pins s σ H vs us Q I r h;obtain⟨e,h⟩:=h;subst e;cases r;exact assignInOrder_nil ⟨σ,H,I,h⟩
theorem aZw{e:Expr}{es:List Expr}{t:TG}{u:TGs}(h1:PG X e t)(h2:PGs X es u)
  (hs:(fq (e::es) X.env).map (·.2)=jB e X.env::(fq es X.env).map (·.2):=by rfl):PGs X (e::es) (cQ8 t u):=by
 intro pins s σ H vs us Q I r h;obtain⟨v,G,B,h⟩:=h;subst B;cases r with
 |cons r j =>
  rw[hs];refine assignInOrder_cons (thn (h1 pins s σ H _ _ _ I r h) λ_ s1 ⟨σ1,H1,D,z⟩=>?_);exact h2 pins s1 σ1 H1 _ _ Q D j z
def gTup(K:ar)(n:Nat)(t:TGs):TG:=λv σ H Q=>∃a xs,v=.ref a/\SqT K H a xs/\xs.length=n/\t xs σ H Q
theorem cZ5{es:List Expr}{k:Nat}{t:TGs}{n:Nat}(hc:X.calm=true)(h:PGs X es t)
  (hn:(fq es X.env).length=n:=by rfl) (hst:(fq es X.env).findIdx? (·.1)=none:=by rfl):PG X (.Tuple es k pos) (gTup X.K n t):=by
 intro pins s σ H v u Q I r hw;obtain⟨a,xs,J,G,hl,hw⟩:=hw;subst J;cases r;obtain⟨z,j,D,U⟩:=I.tuple G;refine assign_Tuple_tuple (I.ok.hd hc) D (by simp[hn,<- hl,j.length]) hst λh' B=>?_
 have O:Inv X pins σ H {s with heap:=h'}:=I.kept λb o e=>B b o (Nat.ne_of_lt (aC e)) e
 exact h pins _ σ H xs _ Q O (by simpa using j) hw
def tAsg(te:TE)(g:TG):TS:=λD σ H=>te σ H λx H1=>g x σ H1 D.nx
theorem fZp{tg e:Expr}{te:TE}{g:TG}(he:PE X e te)(hg:PG X tg g)(hs:swapsWithSole [tg] e pos.line X.env=pure false:=by rfl)(hw:swappedStores [tg] e X.env=pure none:=by rfl)
  (h1:(fq [tg] X.env).map (·.2)=[jB tg X.env]:=by rfl):PS X (.Assign [tg] e pos) (tAsg te g):=by
 intro pins s σ H D I h;refine wpAny_Assign_stores (thn (he pins s σ H _ I h) λv s1 ⟨x,H1,B,j,z⟩=>?_) hs hw;rw[h1];exact thn (hg pins s1 σ H1 x v _ B j z) λ_ s2 q=>q
theorem fZq(hN:X.N.Nodup)(hi:X.N[i]?=some x)(hx:Loc X.env.scope x)(he:PE X e te)(hs:iq e (some (.Name x pos')) pos.line X.env=pure false:=by rfl)(hf:X.fn x=true\/X.env.scope.names.lookup x=some .local:=by first|exact .inl rfl|exact .inr rfl|assumption) :
  PS X (.Assign [.Name x pos'] e pos) (tAsg te (bZ6 i)):=by
 intro pins s σ H D I h;refine wpAny_Assign_Name (thn (he pins s σ H _ I h) λv s1 ⟨y,H1,G,j,z⟩=>?_) hs;exact store_ok G hN hi hx j (λs2 B=>⟨_,H1,B,z⟩) hf
end
structure It where
 go:Nat->Hp->Prop
 yld:Nat->Hp->V->Hp->Prop
 stop:Nat->Hp->Prop
def FpOk(X:Cx)(pins:List (Addr×Obj))(H:Hp)(b:Addr):Prop :=
 H b=none/\b≠X.env.locals/\b∉X.fs/\(b∈X.ex\/X.s₀.heap.objs.size<=b)/\(∀x c,X.env.cells.lookup x=some c->c≠b)/\∀p∈X.pn++pins,p.1≠b
theorem Inv.fpOk{σ:St}{b:Addr}(I:Inv X pins σ H s)(hb:s.heap.objs.size<=b)(hn:H' b=none):FpOk X pins H' b:=by
 refine⟨hn,Nat.ne_of_gt (Nat.lt_of_lt_of_le I.lt hb),I.nofs hb,.inr (Nat.le_trans I.sz hb),λx c e z=>?_,λp j z=>?_⟩
 ·obtain⟨v,q⟩:=I.cell x c e;exact absurd (Nat.lt_of_lt_of_le q.lt (by rw[z];exact hb)) (Nat.lt_irrefl _)
 ·exact absurd (Nat.lt_of_lt_of_le (aC (I.pin p j).1) (by rw[z];exact hb)) (Nat.lt_irrefl _)
structure Turn(P:ax)(w:aK)(K:ar)(tg:Expr)(J:It)(fp:List Addr)(it:Addr)(tn:Nat->bb->Prop):Prop where
 mem:it∈fp
 obj:∀i h,tn i h->∀b∈fp,∃o,h.get? b=some o/\∀v,o.data≠.cell v
 keep:∀i h h',tn i h->(∀b∈fp,∀o,h.get? b=some o->h'.get? b=some o)->tn i h'
 item:∀(X:Cx),X.prog=P->X.w=w->X.K=K->X.calm=true->∀(i:Nat) (pins:List (Addr×Obj)) (s:ag) (σ:St) (H:Hp) (E:ab->ag->Prop),Inv X pins σ H s->(∀b∈fp,FpOk X pins H b)->tn i s.heap->J.go i H ->
  aE (aF P w) X.A (eJ (.ref it)) (λr s1=>∃ u,r=some u /\
   aE (aF P w) X.A (dR tg (.ref it) u) (λ_ s2=>∃x H',Inv X pins σ H' s2/\RelV x u/\J.yld i H x H'/\tn (i+1) s2.heap/\∀b∈fp,H' b=none) E s1) E s
 done:∀(X:Cx),X.prog=P->X.w=w->X.K=K->X.calm=true->∀(i:Nat) (pins:List (Addr×Obj)) (s:ag) (σ:St) (H:Hp) (E:ab->ag->Prop),Inv X pins σ H s->(∀b∈fp,FpOk X pins H b)->tn i s.heap->J.stop i H ->
  aE (aF P w) X.A (eJ (.ref it)) (λr s1=>r=none/\Inv X pins σ H s1) E s
 self:∀(A:aU) (i:Nat) (s:ag) (Q:ab->ag->Prop) (E:ab->ag->Prop),tn i s.heap->Q (.ref it) s->aE (aF P w) A (iu (.ref it)) Q E s
abbrev TI:=St->Hp->(It->Hp->Prop)->Prop
def PIE(X:Cx)(pins:List (Addr×Obj))(σ:St)(tg:Expr)(R:It->Hp->Prop)(itv:ab)(s2:ag):Prop :=
 ∃(it:Addr) (fp:List Addr) (tn:Nat->bb->Prop) (J:It) (H':Hp),itv=.ref it/\Inv X pins σ H' s2/\Turn X.prog X.w X.K tg J fp it tn/\tn 0 s2.heap/\(∀b∈fp,FpOk X pins H' b)/\R J H'
def PI(X:Cx)(tg iter:Expr)(wi:TI):Prop :=
 ∀(pins:List (Addr×Obj)) (s:ag) (σ:St) (H:Hp) (R:It->Hp->Prop),Inv X pins σ H s->wi σ H R ->
  aE (aF X.prog X.w) X.A (eval iter X.env) (λv s1=>aE (aF X.prog X.w) X.A (iu v) (PIE X pins σ tg R) X.xe s1) X.xe s
theorem dXx(ho:s.heap.get? it=some o)(hc:o.cls=.type n)(hd:o.data=.fields vs)
    (hn:["enumerate", "zip", "dict_itemiterator", "dict_reverseitemiterator", "odict_iterator", "itertools.zip_longest", "itertools.pairwise"].contains n=false) (hQ:Q () s):aE M A (dR tg (.ref it) u) Q E s:=by
  cases tg <;> first
    |exact ad hQ
    | (cases u <;> first
        |exact ad hQ
        | (refine aa (wpAny_load ho ?_)
           rw [hc,hd];show aE M A (if (["enumerate", "zip", "dict_itemiterator", "dict_reverseitemiterator", "odict_iterator", "itertools.zip_longest", "itertools.pairwise"].contains n&&vs[0]?==some (er _))=true then _ else _) Q E s
           rw [if_neg (by intro h; rw [hn,Bool.false_and] at h; cases h)]
           exact ad hQ))
def Itl(K:ar)(a:Addr):It :=
 ⟨λi H=>∃xs x,SqL K H a xs/\xs[i]?=some x,λi H x H'=>H'=H/\∀xs,SqL K H a xs->xs[i]?=some x,λi H=>∃xs,SqL K H a xs/\xs.length<=i⟩
def Itt(K:ar)(a:Addr):It :=
 ⟨λi H=>∃xs x,SqT K H a xs/\xs[i]?=some x,λi H x H'=>H'=H/\∀xs,SqT K H a xs->xs[i]?=some x,λi H=>∃xs,SqT K H a xs/\xs.length<=i⟩
def Itr(lo:Int)(n:Nat):It:=⟨λi _=>i<n,λi H x H'=>H'=H/\x=.int (lo+i),λi _=>n<=i⟩
theorem cJk{K:ar}(a it:Addr):Turn P w K tg (Itl K a) [it] it (λi h=>h.IsListIter it a i) where
 mem:=by simp
 obj:=λi h st b j=>by
  have e:b=it:=by simpa using j
  subst e;obtain⟨o,e,c,d⟩:=st;exact⟨o,e,λv z=>by rw[d] at z;cases z⟩
 keep:=λi h h' st k=>st.at λo e=>k it (by simp) o e
 item:=by
  intro X Y hw Z hc i pins s σ H E I hf st U;subst Y hw Z;obtain⟨xs,x,D,O⟩:=U;obtain⟨J,G,p,hz⟩:=I.list D;obtain⟨u,hu,ru⟩:=G.get O;obtain⟨f0,f1,f2,f3,f4,f5⟩:=hf it (by simp)
  refine wpAny_pyNext_list_item st p.isList (by simpa using hu) λh' B sb=>?_
  have I1:Inv X pins σ H {s with heap:=h'}:=I.turned (λb o j e=>(sb.2 b j).trans e) f0 f1 f3 f4 f5
  obtain⟨o,e,c,d⟩:=id B;exact⟨u,rfl,dXx e c d (by decide) ⟨x,H,I1,ru,⟨rfl,λys hy=>by rw[I.list_inj hy D];exact O⟩,B,λb j=>(hf b j).1⟩⟩
 done:=by
  intro X Y hw Z hc i pins s σ H E I hf st U;subst Y hw Z;obtain⟨xs,D,O⟩:=U;obtain⟨J,G,p,hz⟩:=I.list D;obtain⟨f0,f1,f2,f3,f4,f5⟩:=hf it (by simp)
  have hl:=G.length;exact wpAny_pyNext_list_end (I.ok.hd hc) st p.isList (by simp;lia) λh' eb=>⟨rfl,I.turned (λb o j e=>eb b o j e) f0 f1 f3 f4 f5⟩
 self:=λ_ _ _ _ _ st h=>wpAny_pyIter_listiter st h
theorem cXl{K:ar}(a it:Addr):Turn P w K tg (Itt K a) [it] it (λi h=>h.IsTupleIter it a i) where
 mem:=by simp
 obj:=λi h st b B=>by
  have e:b=it:=by simpa using B
  subst e;obtain⟨o,e,c,d⟩:=st;exact⟨o,e,λv z=>by rw[d] at z;cases z⟩
 keep:=λi h h' st k=>st.at λo e=>k it (by simp) o e
 item:=by
  intro X Y hw Z hc i pins s σ H E I hf st U;subst Y hw Z;obtain⟨xs,x,G,O⟩:=U;obtain⟨j,J,p,hz⟩:=I.tuple G;obtain⟨u,hu,ru⟩:=J.get O;obtain⟨f0,f1,f2,f3,f4,f5⟩:=hf it (by simp)
  refine wpAny_pyNext_tuple_item st (p) (by simpa using hu) λh' D sb=>?_
  have I1:Inv X pins σ H {s with heap:=h'}:=I.turned (λb o B e=>(sb.2 b B).trans e) f0 f1 f3 f4 f5
  obtain⟨o,e,c,d⟩:=id D;exact⟨u,rfl,dXx e c d (by decide) ⟨x,H,I1,ru,⟨rfl,λys hy=>by rw[I.tuple_inj hy G];exact O⟩,D,λb B=>(hf b B).1⟩⟩
 done:=by
  intro X Y hw Z hc i pins s σ H E I hf st U;subst Y hw Z;obtain⟨xs,G,O⟩:=U;obtain⟨j,J,p,hz⟩:=I.tuple G;obtain⟨f0,f1,f2,f3,f4,f5⟩:=hf it (by simp)
  have hl:=J.length;exact wpAny_pyNext_tuple_end (I.ok.hd hc) st (p) (by simp;lia) λh' eb=>⟨rfl,I.turned (λb o B e=>eb b o B e) f0 f1 f3 f4 f5⟩
 self:=λ_ _ _ _ _ st h=>wpAny_pyIter_tupleiter st h
theorem cXm{K:ar}(it:Addr)(lo:Int)(n:Nat):Turn P w K tg (Itr lo n) [it] it (λi h=>IsRangeIter h it (lo+i*1) (n-i) 1) where
 mem:=by simp
 obj:=λi h st b j=>by
  have e:b=it:=by simpa using j
  subst e;exact⟨_,st,λv z=>by
   have z':=z;cases z'⟩
 keep:=λi h h' st k=>k it (by simp) _ st
 item:=by
  intro X J hw O G i pins s σ H E I hf st D;subst J hw O;obtain⟨f0,f1,f2,U,f4,f5⟩:=hf it (by simp)
  have W:=Walks.range (prog:=X.prog) (w:=X.w) (I.ok.hd G) it lo 1 n;refine W.item i s _ _ D st λv h' Y hv B Z=>?_;obtain⟨t,rfl⟩:=hv;have I1:Inv X pins σ H {s with heap:=h',toks:=Y}:=I.turned (λb o j e=>Z b o (by simpa using j) e) f0 f1 U f4 f5
  refine⟨_,rfl,dXx B rfl rfl (by decide) ⟨.int (lo+i),H,I1,⟨t,?_⟩,⟨rfl,rfl⟩,B,λb j=>(hf b j).1⟩⟩
  rw[Int.mul_one]
 done:=by
  intro X J hw O G i pins s σ H E I hf st D;subst J hw O;obtain⟨f0,f1,f2,U,f4,f5⟩:=hf it (by simp)
  exact wpAny_pyNext_range_end (I.ok.hd G) st (by have:n<=i:=D;lia) λh' eb=>⟨rfl,I.turned (λb o j e=>eb b o j e) f0 f1 U f4 f5⟩
 self:=λ_ _ _ _ _ st h=>wpAny_pyIter_rangeiter st h
section
variable{X:Cx}{tg:Expr}
theorem cZ6{σ:St}{lo hi:Int}(I:Inv X pins σ H s)(h1:-(2^62)<=lo)(h2:lo<2^62)(h3:-(2^62)<=hi)(h4:hi<2^62)
  (q:R (Itr lo (hi-lo).toNat) H):aE (aF X.prog X.w) X.A (iu (.ref s.heap.objs.size)) (PIE X pins σ tg R) E {s with heap:=s.heap.push {cls:=.type "range",data:=.fields #[.int lo t,.int hi u,.int 1 v]},toks:=tk}:=by
 refine wpAny_pyIter_range (IsRange.new ..) (small_one h1 h2 h3 h4) ?_;have j:Inv X pins σ H {s with heap:=s.heap.push {cls:=.type "range",data:=.fields #[.int lo t,.int hi u,.int 1 v]},toks:=tk}:=I.kept λb o e=>ae _ e
 refine⟨(s.heap.push { cls:=.type "range",data:=.fields #[.int lo t,.int hi u,.int 1 v] }).objs.size,[(s.heap.push { cls:=.type "range",data:=.fields #[.int lo t,.int hi u,.int 1 v] }).objs.size],_,_,H,rfl,
  j.kept λb o e=>ae _ e,cXm _ lo (hi-lo).toNat,?_,λb z=>?_,q⟩
 ·have D:lo+((0:Nat))*1=lo:=by simp
  have B:(((hi-lo).toNat))-((0:Nat))=cr.Range.rangeSize lo hi 1:=by rw[rangeSize_one];split <;> lia
  rw[D,B];exact aq _ rfl
 ·have e:b=(s.heap.push {cls:=.type "range",data:=.fields #[.int lo t,.int hi u,.int 1 v]}).objs.size:=by simpa using z
  subst e;exact j.fpOk (Nat.le_refl _) (j.hok.fresh (Nat.le_refl _))
def gZh(ta:TA):TI:=fun σ H R=>ta σ H λvs H1=>∃j:Int,vs=[.int j]/\-(2^62)<=j/\j<2^62/\R (Itr 0 j.toNat) H1
def gZi(ta:TA):TI:=fun σ H R=>ta σ H λvs H1=>∃i j:Int,vs=[.int i,.int j]/\(-(2^62)<=i/\i<2^62/\-(2^62)<=j/\j<2^62)/\R (Itr i (j-i).toNat) H1
theorem cJl(hg:Gl X "range")(hm:X.mg "range"=none)(ha:PA X [a] ta)(hs:aD [a] X.env=[(false,eval a X.env)]:=by rfl):PI X tg (.Call (.Name "range" p) [a] [] pos) (gZh ta):=by
 intro pins s σ H R I h;refine Call_ (ld_blt I hg hm boot_range (eL (thn (ha pos pins s σ H _ I h) λus s1 ⟨vs,H1,D,r1,z⟩=>?_) hs rfl));obtain⟨j,e,z,B,q⟩:=z;subst e;cases r1 with
 |cons r rr =>
  cases rr;obtain⟨t,rfl⟩:=r;exact call_range_1 (cZ6 D (by lia) (by lia) z B (by simpa using q))
theorem cJm{p pos:Pos}(hg:Gl X "range")(hm:X.mg "range"=none)(ha:PA X [a,b] ta)(hs:aD [a,b] X.env=[(false,eval a X.env),(false,eval b X.env)]:=by rfl)(hs2:aD [b] X.env=[(false,eval b X.env)]:=by rfl) :
  PI X tg (.Call (.Name "range" p) [a,b] [] pos) (gZi ta):=by
 intro pins s σ H R I h;refine Call_ (ld_blt I hg hm boot_range (eL (thn (ha pos pins s σ H _ I h) λus s1 ⟨vs,H1,O,r1,z⟩=>?_) (by rw[hs,hs2]) (by rw[hs2];rfl)))
 obtain⟨i,j,e,⟨z,J,G,D⟩,q⟩:=z;subst e;cases r1 with
 |cons r rr =>
  cases rr with
  |cons B rr =>
   cases rr;obtain⟨t,rfl⟩:=r;obtain⟨U,rfl⟩:=B;exact call_range_2 (cZ6 O z J G D q)
def tFor(wi:TI)(g:TG)(tb:TS):TS:=λD σ H=>wi σ H λJ H1=>∃W:Nat->Nat->St->Hp->Prop,(∃m,W 0 m σ H1)/\∀i m σ H,W i m σ H ->
 (J.stop i H/\D.nx σ H)\/(J.go i H/\∃N:St->Hp->Prop,(∀σ' H',N σ' H'->∃m',m'<m/\W (i+1) m' σ' H')/\∀x H',J.yld i H x H'->g x σ H' fun σ2 H2=>tb {D with nx:=N,ct:=N,bk:=D.nx} σ2 H2)
def bJ7(fp:List Addr)(h:bb):List (Addr×Obj):=fp.filterMap λb=>(h.get? b).map λo=>(b,o)
theorem aXd(hb:b∈fp)(e:h.get? b=some o):(b,o)∈bJ7 fp h:=eT.mpr ⟨b,hb,by rw[e];rfl⟩
theorem cJn(hp:p∈bJ7 fp h):p.1∈fp/\h.get? p.1=some p.2:=by
 obtain⟨b,j,e⟩:=eT.mp hp;cases q:h.get? b with
 |none=>rw[q] at e;cases e
 |some o =>
  rw[q] at e;have z:=a7 e;subst z;exact⟨j,q⟩
theorem Inv.pinned{σ:St}(I:Inv X pins σ H s)(hf:∀b∈fp,FpOk X pins H b)(ho:∀b∈fp,∃o,s.heap.get? b=some o/\∀v,o.data≠.cell v):Inv X (pins++bJ7 fp s.heap) σ H s :=
 I.pins_of λp B=>(aY.mp B).elim (λz=>I.pin p (bz _ z)) λz=>by
  obtain⟨j,e⟩:=cJn z;obtain⟨f0,f1,f2,_⟩:=hf p.1 j;obtain⟨o,e',d⟩:=ho p.1 j;rw[e] at e';cases e';exact⟨e,f0,f1,f2,d⟩
theorem Inv.unpinned{σ:St}(I:Inv X (pins++pl) σ H s):Inv X pins σ H s:=I.pins_of λp j=>I.pin p (bz _ (cZ _ j))
theorem fZr(hp:PassesOwn (aF X.prog X.w) X.A X.env X.xe)(hc:X.calm=true)(hi:PI X tg iter wi)(hg:PG X tg g)(hb:PSs X body tb)
  (hs:∀x,cy iter X.env x=pure x:=by intro _;rfl):PS X (.For tg iter body [] pos) (tFor wi g tb):=by
 intro pins s σ H D I h;refine wpAny_For (thn (hi pins s σ H _ I h) λv s1 h1=>thn h1 λitv s2 h2=>?_) hs;obtain⟨it,fp,tn,J,H2,e,I2,T,st2,f2,W,⟨m0,w0⟩,turn⟩:=h2;subst e;have j:∀{H':Hp},(∀b∈fp,H' b=none)->∀b∈fp,FpOk X pins H' b:=λhn b hb=>⟨hn b hb,(f2 b hb).2⟩;refine codeAny_forLoop_any (λn s'=>∃i σ' H',Inv X pins σ' H' s'/\tn i s'.heap/\(∀b∈fp,H' b=none)/\W i n σ' H') ?_ m0 ⟨0,σ,H2,I2,st2,λb hb=>(f2 b hb).1,w0⟩;rintro n s3 ⟨i,σ3,H3,I3,U,Z,w3⟩;rcases turn i n σ3 H3 w3 with⟨stop,qn⟩|⟨go,N,hN,step⟩
 ·refine gM hp (thn (T.done X rfl rfl rfl hc i pins s3 σ3 H3 X.xe I3 (j Z) U stop) λr s4 ⟨hr,I4⟩=>?_);subst hr;exact wpAny_execs_nil ⟨σ3,H3,I4,qn⟩
 ·refine gM hp (thn (T.item X rfl rfl rfl hc i pins s3 σ3 H3 X.xe I3 (j Z) U go) λr s4 ⟨u,hr,h4⟩=>?_);subst hr;refine gM hp (thn h4 λ_ s5 ⟨x,H5,I5,r5,y5,O,fr5⟩=>?_);have I5':=I5.pinned (j fr5) (T.obj _ _ O);refine gM hp (thn (hg _ s5 σ3 H5 x u _ I5' r5 (step x H5 y5)) λ_ s6 ⟨σ6,H6,I6,q6⟩=>?_);refine gM hp (thn (hb _ s6 σ6 H6 _ I6 q6) λf s7 G=>?_);have again:∀{σ7:St}{B:Hp},Inv X (pins++bJ7 fp s5.heap) σ7 B s7->N σ7 B->∃m,m<n/\∃i σ' H',Inv X pins σ' H' s7/\tn i s7.heap/\(∀b∈fp,H' b=none)/\W i m σ' H':=λ{σ7 B} z Y=>by
   obtain⟨m',hm,w7⟩:=hN σ7 B Y;refine⟨m',hm,i+1,σ7,B,z.unpinned,T.keep _ _ _ O λb hb o e=>(z.pin (b,o) (bz _ (bz _ (aXd hb e)))).1,λb hb=>?_,w7⟩;obtain⟨o,e,d⟩:=T.obj _ _ O b hb;exact(z.pin (b,o) (bz _ (bz _ (aXd hb e)))).2.1
  cases f with
  |next=>obtain⟨σ7,B,z,Y⟩:=G;exact again z Y
  |cont=>obtain⟨σ7,B,z,Y⟩:=G;exact again z Y
  |brk=>obtain⟨σ7,B,z,G⟩:=G;exact⟨σ7,B,z.unpinned,G⟩
  |ret v=>obtain⟨x7,σ7,B,z,r7,G⟩:=G;exact⟨x7,σ7,B,z.unpinned,r7,G⟩
end
abbrev R2:=V->V->Hp->VK->Prop
def OpR(X:Cx)(f:ab->ab->Sem ab)(r:R2):Prop :=
 ∀(pins:List (Addr×Obj)) (s:ag) (σ:St) (H:Hp) (x y:V) (v u:ab) (Q:VK),Inv X pins σ H s->RelV x v->RelV y u->r x y H Q ->
  aE (aF X.prog X.w) X.A (f v u) (EP X pins σ Q) X.xe s
def UnR(X:Cx)(f:ab->Sem ab)(r:V->Hp->VK->Prop):Prop :=
 ∀(pins:List (Addr×Obj)) (s:ag) (σ:St) (H:Hp) (x:V) (v:ab) (Q:VK),Inv X pins σ H s->RelV x v->r x H Q ->
  aE (aF X.prog X.w) X.A (f v) (EP X pins σ Q) X.xe s
def CallR(X:Cx)(f:ab)(r:List V->Hp->VK->Prop):Prop :=
 ∀(pins:List (Addr×Obj)) (s:ag) (σ:St) (H:Hp) (xs:List V) (us:List ab) (Q:VK),Inv X pins σ H s->Vals xs us->r xs H Q ->
  aE (aF X.prog X.w) X.A (call f us) (EP X pins σ Q) X.xe s
def TruR(X:Cx)(r:V->Hp->(Bool->Hp->Prop)->Prop):Prop :=
 ∀(pins:List (Addr×Obj)) (s:ag) (σ:St) (H:Hp) (x:V) (v:ab) (Q:Bool->Hp->Prop),Inv X pins σ H s->RelV x v->r x H Q ->
  aE (aF X.prog X.w) X.A (truthy v) (TP X pins σ Q) X.xe s
def tOp(r:R2)(ta tb:TE):TE:=fun σ H Q=>ta σ H λx H1=>tb σ H1 λy H2=>r x y H2 Q
def tUn(r:V->Hp->VK->Prop)(ta:TE):TE:=fun σ H Q=>ta σ H λx H1=>r x H1 Q
def rI(C:Int->Int->Prop)(g:Int->Int->V):R2:=λx y H Q=>∃i j,x=.int i/\y=.int j/\C i j/\Q (g i j) H
def rI0(g:Int->Int->V):R2:=λx y H Q=>∃i j,x=.int i/\y=.int j/\Q (g i j) H
def rU(g:Int->V):V->Hp->VK->Prop:=λx H Q=>∃i,x=.int i/\Q (g i) H
section
variable{X:Cx}{a b c:Expr}{ta tb tc:TE}{pos:Pos}
theorem binT(ha:PE X a ta)(hb:PE X b tb){pins:List (Addr×Obj)}{s:ag}{σ:St}{H:Hp}{R:V->V->Hp->Prop}(I:Inv X pins σ H s)
  (h:ta σ H λx H1=>tb σ H1 λy H2=>R x y H2) {Q:ab->ag->Prop}{f:ab->ab->Sem ab}
  (hf:∀v u s2 x y H2,Inv X pins σ H2 s2->RelV x v->RelV y u->R x y H2->aE (aF X.prog X.w) X.A (f v u) Q X.xe s2) :
  aE (aF X.prog X.w) X.A (eval a X.env) (λv s₁=>aE (aF X.prog X.w) X.A (eval b X.env) (λu s₂=>aE (aF X.prog X.w) X.A (f v u) Q X.xe s₂) X.xe s₁) X.xe s:=by
 refine thn (ha pins s σ H _ I h) λv s1 ⟨x,H1,J,z,D⟩=>?_;refine thn (hb pins s1 σ H1 _ J D) λu s2 ⟨y,H2,G,j,B⟩=>?_;exact hf v u s2 x y H2 G z j B
theorem gZj(ho:OpR X (fb op) r)(ha:PE X a ta)(hb:PE X b tb):PE X (.BinOp a op b pos) (tOp r ta tb):=by
 intro pins s σ H Q I h;exact wpAny_BinOp (binT ha hb I h λv u s2 x y H2 B z j q=>ho pins s2 σ H2 x y v u Q B z j q)
theorem gZk(ho:UnR X (unaryOp op) r)(ha:PE X a ta):PE X (.UnaryOp op a pos) (tUn r ta):=by
 intro pins s σ H Q I h;exact UnaryOp_ (thn (ha pins s σ H _ I h) λv s1 ⟨x,H1,B,j,z⟩=>ho pins s1 σ H1 x v Q B j z)
theorem opI{g:Int->Int->Int}
  (rule:∀(i j:Int) (t u:Tok) (s:ag) (Q:ab->ag->Prop) (E:ab->ag->Prop),C i j->Q (.int (g i j) s.toks) {s with toks:=s.toks+1}->aE (aF X.prog X.w) X.A (f (.int i t) (.int j u)) Q E s) :
  OpR X f (rI C λi j=>.int (g i j)):=by
 intro pins s σ H x y v u Q I D B h;obtain⟨i,j,rfl,rfl,G,q⟩:=h;obtain⟨t,rfl⟩:=D;obtain⟨z,rfl⟩:=B;exact rule i j t z s _ _ G ⟨.int (g i j),H,I.tok _,⟨_,rfl⟩,q⟩
theorem opI0{g:Int->Int->Int}
  (rule:∀(i j:Int) (t u:Tok) (s:ag) (Q:ab->ag->Prop) (E:ab->ag->Prop),Q (.int (g i j) s.toks) {s with toks:=s.toks+1}->aE (aF X.prog X.w) X.A (f (.int i t) (.int j u)) Q E s) :
  OpR X f (rI0 λi j=>.int (g i j)):=by
 intro pins s σ H x y v u Q I D B h;obtain⟨i,j,rfl,rfl,q⟩:=h;obtain⟨t,rfl⟩:=D;obtain⟨z,rfl⟩:=B;exact rule i j t z s _ _ ⟨.int (g i j),H,I.tok _,⟨_,rfl⟩,q⟩
theorem opB0{g:Int->Int->Bool}
  (rule:∀(i j:Int) (t u:Tok) (s:ag) (Q:ab->ag->Prop) (E:ab->ag->Prop),Q (.bool (g i j)) s->aE (aF X.prog X.w) X.A (f (.int i t) (.int j u)) Q E s) :
  OpR X f (rI0 λi j=>.bl (g i j)):=by
 intro pins s σ H x y v u Q I D B h;obtain⟨i,j,rfl,rfl,q⟩:=h;obtain⟨t,rfl⟩:=D;obtain⟨z,rfl⟩:=B;exact rule i j t z s _ _ ⟨.bl (g i j),H,I,rfl,q⟩
def CDiv(i j:Int):Prop:=0<j/\j<1073741824
def CPow(i j:Int):Prop:=0<=j/\j<=1000000/\i.natAbs<2^64
def CMul(i j:Int):Prop:=(-(2^64)<i/\i<2^64)\/(-(2^64)<j/\j<2^64)
theorem CMul.ok(h:CMul i j):IntMulOk i j:=by
 rcases h with⟨h1,h2⟩|⟨h1,h2⟩
 ·exact .of_left (intBits_le_64 h1 h2)
 ·exact .of_right (intBits_le_64 h1 h2)
theorem op_add:OpR X (fb .Add) (rI0 λi j=>.int (i+j)):=opI0 λ_ _ _ _ _ _ _ q=>add_int q
theorem fZs:OpR X (fb .Sub) (rI0 λi j=>.int (i-j)):=opI0 λ_ _ _ _ _ _ _ q=>sub_int q
theorem fZt:OpR X (fb .Mult) (rI CMul λi j=>.int (i*j)):=opI λ_ _ _ _ _ _ _ z q=>mul_int q z.ok
theorem eX2:OpR X (fb .FloorDiv) (rI CDiv λi j=>.int (i/j)):=opI λi j _ _ _ _ _ z q=>by
 have h1:=z.1;have h2:=z.2;exact floordiv_int (by lia) (by rw[Int.fdiv_eq_ediv_of_nonneg i (by lia)];exact q) (.inl (PyProof.noPylong_small (by lia)))
theorem fZu:OpR X (fb .Mod) (rI (λ_ j=>0<j) λi j=>.int (i%j)):=opI λi j _ _ _ _ _ z q=>by
 have h1:=z;exact mod_int' (by lia) (by rw[Int.fmod_eq_emod_of_nonneg i (by lia)];exact q)
theorem fZv:OpR X (fb .Pow) (rI CPow λi j=>.int (i^j.toNat)):=opI λ_ _ _ _ _ _ _ z q=>pow_int_small z.1 z.2.1 z.2.2 q
theorem unI{g:Int->Int}
  (rule:∀(i:Int) (t:Tok) (s:ag) (Q:ab->ag->Prop) (E:ab->ag->Prop),Q (.int (g i) s.toks) {s with toks:=s.toks+1}->aE (aF X.prog X.w) X.A (f (.int i t)) Q E s) :
  UnR X f (rU λi=>.int (g i)):=by
 intro pins s σ H x v Q I j h;obtain⟨i,rfl,q⟩:=h;obtain⟨t,rfl⟩:=j;exact rule i t s _ _ ⟨.int (g i),H,I.tok _,⟨_,rfl⟩,q⟩
theorem fZw:UnR X (unaryOp .USub) (rU λi=>.int (-i)):=unI λ_ _ _ _ _ q=>neg_int q
end
section
variable{X:Cx}{a b c:Expr}{ta tb tc:TE}{pos:Pos}
theorem cZ7{σ:St}(I:Inv X pins σ H s)(q:Q (.bl k) H)(e:k=k'):EP X pins σ Q (.bool k') s:=by
 subst e;exact⟨.bl k,H,I,rfl,q⟩
theorem op_lt:OpR X (bU .Lt) (rI0 λi j=>.bl (decide (i<j))):=opB0 λ_ _ _ _ _ _ _ q=>lt_int q
theorem eX3:OpR X (bU .LtE) (rI0 λi j=>.bl (decide (i<=j))):=opB0 λ_ _ _ _ _ _ _ q=>le_int q
theorem gZl:OpR X (bU .Gt) (rI0 λi j=>.bl (decide (j<i))):=opB0 λ_ _ _ _ _ _ _ q=>gt_int q
theorem gZm:OpR X (bU .GtE) (rI0 λi j=>.bl (decide (j<=i))):=opB0 λ_ _ _ _ _ _ _ q=>ge_int q
theorem op_lt_str:OpR X (bU .Lt) (λx y H Q=>∃i j,x=.str i/\y=.str j/\Q (.bl (decide (i.cps.toList<j.cps.toList))) H):=by
 intro pins s σ H x y v u Q I B z h;obtain⟨i,j,rfl,rfl,q⟩:=h;obtain⟨t,rfl⟩:=B;obtain⟨D,rfl⟩:=z;exact lt_str (cZ7 I q rfl)
theorem fZx:OpR X (bU .Is) (λx y H Q=>y=.non/\Q (.bl (decide (x=.non))) H):=by
 intro pins s σ H x y v u Q I rx ry h;obtain⟨rfl,q⟩:=h;cases ry;refine is_none_gen (cZ7 I q ?_);cases x <;> first
  |(cases rx;rfl)
  |(obtain⟨t,rfl⟩:=rx;rfl)
theorem eX4:OpR X (bU .IsNot) (λx y H Q=>y=.non/\Q (.bl (!decide (x=.non))) H):=by
 intro pins s σ H x y v u Q I rx ry h;obtain⟨rfl,q⟩:=h;cases ry;refine isnot_none_gen (cZ7 I q ?_);cases x <;> first
  |(cases rx;rfl)
  |(obtain⟨t,rfl⟩:=rx;rfl)
theorem OpR.or(h:OpR X f r)(h':OpR X f r'):OpR X f (λx y H Q=>r x y H Q\/r' x y H Q):=by
 intro pins s σ H x y v u Q I z j q;rcases q with q|q
 ·exact h pins s σ H x y v u Q I z j q
 ·exact h' pins s σ H x y v u Q I z j q
theorem nomark(b:Expr){op:CmpOp}(h:op≠.In:=by decide)(h2:op≠.NotIn:=by decide):eP op b=false:=by
 have z:(op==CmpOp.In)=false:=by cases op <;> first|rfl|exact absurd rfl h
 have j:(op==CmpOp.NotIn)=false:=by cases op <;> first|rfl|exact absurd rfl h2
 cases b <;> simp[eP,z,j]
theorem eX5(ho:OpR X (bU op) r)(ha:PE X a ta)(hb:PE X b tb)(hm:eP op b=false):PE X (.Compare a [op] [b] pos) (tOp r ta tb):=by
 intro pins s σ H Q I h;exact wpAny_Compare1 (binT ha hb I h λv u s2 x y H2 B z j q=>ho pins s2 σ H2 x y v u Q B z j q) hm
def eX6(t:TE):TT:=fun σ H Q=>t σ H λx H'=>∃k,x=.bl k/\Q k H'
theorem eX7(ho:OpR X (bU op) r)(ha:PE X a ta)(hb:PE X b tb)(hm:eP op b=false):PT X (.Compare a [op] [b] pos) (eX6 (tOp r ta tb)):=by
 intro pins s σ H Q I h;refine wpAny_isTrue_Compare1 (thn (ha pins s σ H _ I h) λv s1 ⟨x,H1,Y,B,J⟩=>thn (hb pins s1 σ H1 _ Y J) λu s2 ⟨y,H2,U,j,G⟩ =>
  thn (ho pins s2 σ H2 x y v u _ U B j G) λc s3 ⟨z,Z,O,r3,k,e,D⟩=>?_) hm
 subst e;cases r3;exact cU ⟨Z,O,D⟩
def eQm(r r':R2)(ta tb tc:TE):TE:=fun σ H Q=>ta σ H λx H1=>tb σ H1 λy H2=>r x y H2 λz H3=>∃k,z=.bl k /\
 (if k=true then tc σ H3 λw' H4=>r' y w' H4 Q else Q (.bl false) H3)
theorem dXy(ho:OpR X (bU op) r)(ho':OpR X (bU op') r')(ha:PE X a ta)(hb:PE X b tb)(hc:PE X c tc)
  (hm:lastMarks [op,op'] [b,c]=false:=by with_unfolding_all rfl):PT X (.Compare a [op,op'] [b,c] pos) (eX6 (eQm r r' ta tb tc)):=by
 intro pins s σ H Q I h;refine isTrue_chain (thn (ha pins s σ H _ I h) λv s1 ⟨x,H1,I1,Y,q1⟩=>test_link (thn (hb pins s1 σ H1 _ I1 q1) λu s2 ⟨y,H2,I2,j,q2⟩ =>
  thn (ho pins s2 σ H2 x y v u _ I2 Y j q2) λd s3 ⟨z,G,D,r3,k,e,B⟩=>?_)) hm
 subst e;cases r3;refine cU ?_;cases k with
 |false =>
  obtain⟨k',e',q'⟩:=B;cases e';exact ite_ff ⟨G,D,q'⟩
 |true =>
  refine ite_tt (test_last (thn (hc pins s3 σ G _ D B) λO s4 ⟨J,H4,I4,U,q4⟩=>thn (ho' pins s4 σ H4 y J u O _ I4 j U q4) λd' s5 ⟨z2,H5,I5,r5,k2,e2,Z⟩=>?_));subst e2;cases r5;exact cU ⟨H5,I5,Z⟩
def TruV(K:ar)(x:V)(H:Hp)(k:Bool):Prop :=
 match x with
 |.non=>k=false
 |.bl b=>k=b
 |.int i=>k=(i !=0)
 |.str y=>y.length<=sizeLine/\k=((y.length:Int) !=0)
 |.byt y=>y.size<=sizeLine/\k=((y.size:Int) !=0)
 |.ref p=>(∃xs,SqL K H p xs/\k=!xs.isEmpty)\/(∃xs,SqT K H p xs/\k=!xs.isEmpty)\/∃kvs,H p=some (.dK kvs)/\k=!kvs.isEmpty
 |_=>False
theorem cXn{kvs:List (κ×V)}{vs:List (κ×ab)}(r:KV kvs vs):(!vs.isEmpty)=!kvs.isEmpty:=by
 cases r <;> rfl
theorem bZg(r:Vals xs its):(!its.toArray.isEmpty)=!xs.isEmpty:=by
 cases r <;> simp
theorem bJ8:sizeLine<2^63:=by rw[bH];decide
theorem fZy:TruR X (λx H Q=>∃k,TruV X.K x H k/\Q k H):=by
 intro pins s σ H x v Q I rx h;obtain⟨k,e,q⟩:=h;have hl:=bJ8;have hs:=bH;cases x with
 |non =>
  cases rx;have j:=e;subst j;exact truthy_none ⟨H,I,q⟩
 |bl b =>
  cases rx;have j:=e;subst j;exact cU ⟨H,I,q⟩
 |int i =>
  obtain⟨t,rfl⟩:=rx;have j:=e;subst j;exact PySem.P.truthy_int ⟨H,I,q⟩
 |str y =>
  obtain⟨t,rfl⟩:=rx;obtain⟨G,j⟩:y.length<=sizeLine/\k=((y.length:Int) !=0):=e;subst j;exact PySem.P.truthy_str (by lia) ⟨H,I.tok _,q⟩
 |byt y =>
  obtain⟨t,rfl⟩:=rx;obtain⟨G,j⟩:y.size<=sizeLine/\k=((y.size:Int) !=0):=e;subst j;exact PySem.W.truthy_bytes (by lia) ⟨H,I.tok _,q⟩
 |ref p =>
  cases rx;have j:=e;rcases j with⟨xs,z,j⟩|⟨xs,z,j⟩|⟨kvs,z,j⟩
  ·subst j;obtain⟨B,r,pl,D⟩:=I.list z;have hlen:=r.length;exact wpAny_truthy_list pl.isList (by simp only[ay];lia) ⟨H,I.tok _,by rw[bZg r];exact q⟩
  ·subst j;obtain⟨B,r,pl,D⟩:=I.tuple z;have hlen:=r.length;exact truthy_tuple pl (by simp only[ay];lia) ⟨H,I.tok _,by rw[bZg r];exact q⟩
  ·subst j;obtain⟨D,J,vs,r,m⟩:kvs.length<=sizeLine/\(p==fk)=false/\∃vs,KV kvs vs/\s.heap.DictOf (bQ7 X.prog X.w) p vs:=I.hok p _ z;have hlen:=bL r;exact wpAny_truthy_dict J m (by lia) ⟨H,I.tok _,by rw[cXn r];exact q⟩
 |_=>exact(e).elim
theorem dXz(ha:PE X a ta)(he:∀whole,isTrue a X.env whole=(do let v <- whole;gk a.pos;jt [v] (truthy v))) :
  PT X a (fun σ H Q=>ta σ H λx H'=>∃k,TruV X.K x H' k/\Q k H'):=by
 intro pins s σ H Q I h;exact isTrue_plain (thn (ha pins s σ H _ I h) λv s1 ⟨x,H1,B,j,z⟩=>fZy pins s1 σ H1 x v Q B j z) (he _)
theorem op_add_str:OpR X (fb .Add) (λx y H Q=>∃i j,x=.str i/\y=.str j/\i.length+j.length<=sizeLine/\Q (.str (i++j)) H):=by
 intro pins s σ H x y v u Q I D B h;obtain⟨i,j,rfl,rfl,G,q⟩:=h;obtain⟨t,rfl⟩:=D;obtain⟨z,rfl⟩:=B;exact add_str (λz J=>⟨.str (i++j),H,I.tok _,⟨_,rfl⟩,q⟩) G
theorem aX3(r:Vals [x] us):∃u,us=[u]/\RelV x u:=by
 cases r with
 |cons j r2=>cases r2;exact⟨_,rfl,j⟩
theorem fZz(r:Vals [x,y] us):∃u w',us=[u,w']/\RelV x u/\RelV y w':=by
 cases r with
 |cons z r2 =>
  cases r2 with
  |cons j r4=>cases r4;exact⟨_,_,rfl,z,j⟩
theorem cJo(hc:X.calm=true):CallR X (.builtin "max") (λxs H Q=>∃i j,xs=[.int i,.int j]/\Q (.int (if j>i then j else i)) H):=by
 intro pins s σ H xs us Q I r h;obtain⟨i,j,rfl,q⟩:=h;obtain⟨u,B,rfl,⟨t,rfl⟩,⟨G,rfl⟩⟩:=fZz r;refine max_two_ints (I.ok.hd hc) λh' D k=>⟨_,H,I.kept k,?_,q⟩
 by_cases z:j>i
 ·rw[if_pos z,if_pos z];exact⟨_,rfl⟩
 ·rw[if_neg z,if_neg z];exact⟨_,rfl⟩
theorem cJp(hc:X.calm=true):CallR X (.builtin "min") (λxs H Q=>∃i j,xs=[.int i,.int j]/\Q (.int (if j<i then j else i)) H):=by
 intro pins s σ H xs us Q I r h;obtain⟨i,j,rfl,q⟩:=h;obtain⟨u,B,rfl,⟨t,rfl⟩,⟨G,rfl⟩⟩:=fZz r;refine min_two_ints (I.ok.hd hc) λh' D k=>⟨_,H,I.kept k,?_,q⟩
 by_cases z:j<i
 ·rw[if_pos z,if_pos z];exact⟨_,rfl⟩
 ·rw[if_neg z,if_neg z];exact⟨_,rfl⟩
def LenV(K:ar)(x:V)(H:Hp)(n:Nat):Prop :=
 match x with
 |.str y=>y.length<=sizeLine/\n=y.length
 |.byt y=>y.size<=sizeLine/\n=y.size
 |.ref p=>(∃xs,SqL K H p xs/\n=xs.length)\/∃xs,SqT K H p xs/\n=xs.length
 |_=>False
theorem dJ0:CallR X (.builtin "len") (λxs H Q=>∃x n,xs=[x]/\LenV X.K x H n/\Q (.int n) H):=by
 intro pins s σ H xs us Q I r h;obtain⟨x,n,rfl,e,q⟩:=h;obtain⟨u,rfl,rx⟩:=aX3 r;have hl:=bJ8;have hs:=bH;cases x with
 |str y =>
  obtain⟨t,rfl⟩:=rx;obtain⟨J,j⟩:y.length<=sizeLine/\n=y.length:=e;subst j;exact len_str (by lia) ⟨.int _,H,I.tok _,⟨_,rfl⟩,q⟩
 |byt y =>
  obtain⟨t,rfl⟩:=rx;obtain⟨J,j⟩:y.size<=sizeLine/\n=y.size:=e;subst j;exact PySem.W.len_bytes (by lia) ⟨.int _,H,I.tok _,⟨_,rfl⟩,q⟩
 |ref p =>
  cases rx;have j:=e;rcases j with⟨xs,D,j⟩|⟨xs,D,j⟩
  ·subst j;obtain⟨B,z,pl,G⟩:=I.list D;have hlen:=z.length;exact Calls.call_len_list pl.isList (by simp only[ay];lia) ⟨.int xs.length,H,I.tok _,⟨_,by simp only[ay];rw[hlen]⟩,q⟩
  ·subst j;obtain⟨B,z,pl,G⟩:=I.tuple D;have hlen:=z.length;exact len_tuple pl (by simp only[ay];lia) ⟨.int xs.length,H,I.tok _,⟨_,by simp only[ay];rw[hlen]⟩,q⟩
 |_=>exact(e).elim
end
structure Room(k:Nat)(A:aU):Prop where
 hd:A.handled=none
 dp:A.depth+3*k+5<gZ
 un:A.units+16*k+200<bN
theorem Room.mono(r:Room k A)(h:j<=k):Room j A:=⟨r.hd,by have:=r.dp;lia,by have:=r.un;lia⟩
theorem Room.deeper(r:Room (k+1) A)(env:Env):Room k (A.deeper env) :=
 ⟨r.hd,by have:=r.dp;show A.depth+1+3*k+5<_;lia,by have:=r.un;show A.units+3+16*k+200<_;lia⟩
theorem Room.depth(r:Room k A):A.depth<gZ:=by have:=r.dp;lia
theorem Room.units(r:Room k A):A.units+64<bN:=by have:=r.un;lia
theorem Room.units0(r:Room k A):A.units<bN:=by have:=r.un;lia
def tNil:TA:=λ_ H Q=>Q [] H
def gZn(ta:TE)(tr:TA):TA:=fun σ H Q=>ta σ H λx H1=>tr σ H1 λxs H2=>Q (x::xs) H2
section
variable{X:Cx}{e:Expr}{es:List Expr}{te:TE}{t:TA}{pos:Pos}
theorem bQ8:PA X [] tNil:=λ_ _ _ _ H Q I h=>fV ⟨[],H,I,.nil,h⟩
theorem aXp(ha:PE X e te)(hr:PA X es t)(hs:aD (e::es) X.env=(false,eval e X.env)::aD es X.env:=by rfl):PA X (e::es) (gZn te t):=by
 intro pos pins s σ H Q I h;rw[hs];refine d6 (thn (ha pins s σ H _ I h) λu s1 ⟨x,H1,J,z,D⟩=>?_);exact thn (hr pos pins s1 σ H1 _ J D) λus s2 ⟨xs,H2,G,j,B⟩=>⟨x::xs,H2,G,.cons z j,B⟩
def tTup(t:TA):TE:=fun σ H Q=>t σ H λxs H1=>xs.length<=sizeLine/\∀p,H1 p=none->Q (.ref p) (upd H1 p (.tup xs))
def tLst(t:TA):TE:=fun σ H Q=>t σ H λxs H1=>xs.length<=sizeLine/\∀p,H1 p=none->Q (.ref p) (upd H1 p (.lst xs))
theorem fX0(h:PA X es t):PE X (.Tuple es x1 pos) (tTup t):=by
 intro pins s σ H Q I B;refine wpAny_Tuple_spliced (thn (h pos pins s σ H _ I B) λus s1 ⟨xs,H1,j,r,z,q⟩=>⟨by rw[<- r.length];exact z,?_⟩)
 have hf:=j.hok.fresh (Nat.le_refl _);refine⟨.ref s1.heap.objs.size,upd H1 s1.heap.objs.size (.tup xs),j.laid (λb u e=>ae _ e) (Nat.le_refl _) ?_,rfl,q _ hf⟩;exact⟨z,us,r,⟨_,aq _ rfl,rfl,_,rfl⟩,bJ5⟩
theorem fX1(h:PA X es t):PE X (.List es pos) (tLst t):=by
 intro pins s σ H Q I B;refine wpAny_List_spliced (thn (h pos pins s σ H _ I B) λus s1 ⟨xs,H1,j,r,z,q⟩=>⟨by rw[<- r.length];exact z,?_⟩)
 have hf:=j.hok.fresh (Nat.le_refl _);refine⟨.ref s1.heap.objs.size,upd H1 s1.heap.objs.size (.lst xs),j.laid (λb u e=>ae _ e) (Nat.le_refl _) ?_,rfl,q _ hf⟩;exact⟨z,us,0,r,aq _ rfl⟩
end
abbrev Sp:=List V->Hp->VK->XK->Prop
abbrev CXT:=List Env->Hp->ag->XK->ab->ag->Prop
structure Env0(P:ax)(w:aK)(K:ar)(mg:Str->Option ab)(base:bb)(A:aU)(outer:List Env)(s:ag)(H:Hp):Prop where
 frames:A.frames=some outer
 gd:A.guards=some []
 mod:Mod K mg base
 bs:∀b o,base.get? b=some o->s.heap.get? b=some o/\H b=none
 bsz:base.objs.size<=s.heap.objs.size
 funs:s.heap.FunFrames base outer
 frf:∀b∈frs outer,H b=none
 hok:HOk P w H s.heap
 bare:js s.gens
def CE(outer:List Env)(P:ax)(w:aK)(H:Hp)(s:ag)(Q:VK)(u:ab)(s':ag):Prop :=
 ∃v H',s'.os=s.os/\js s'.gens/\Un (frs outer) [] H H' s.heap s'.heap/\HOk P w H' s'.heap/\RelV v u/\Q v H'
def CR(CX:CXT)(outer:List Env)(P:ax)(w:aK)(H:Hp)(s:ag)(Q:VK)(E:XK)(r:Result)(s':ag):Prop :=
 match r with
 |.ok (.ret u)=>CE outer P w H s Q u s'
 |.ok _=>False
 |.error e=>CX outer H s E e s'
structure FnOk(P:ax)(w:aK)(K:ar)(mg:Str->Option ab)(base:bb)(CX:CXT)(k:Nat)(f:Addr)(fd:dE)(ps:List Str)(sp:Sp):Prop where
 len:∀vs H Q E,sp vs H Q E->vs.length=ps.length
 run:∀(A:aU) (outer:List Env) (s:ag) (H:Hp) (args:Args) (us:List ab) (vs:List V) (Q:VK) (E:XK),Room k A->Env0 P w K mg base A outer s H->BindsTo s fd args (ps.zip us)->Vals vs us->sp vs H Q E ->
  fx (aF P w) A (.call (.ref f) args) (CR CX outer P w H s Q E) s
theorem FnOk.mono{K:ar}(F:FnOk P w K mg base CX j f fd ps sp)(h:j<=k) :
  FnOk P w K mg base CX k f fd ps sp:=⟨F.len,λA outer s H args us vs Q E z=>F.run A outer s H args us vs Q E (z.mono h)⟩
section
variable{X:Cx}{pins:List (Addr×Obj)}{σ:St}{H:Hp}{s s':ag}
theorem Inv.env0(I:Inv X pins σ H s):Env0 X.prog X.w X.K X.mg X.base X.A X.stack s H :=
 ⟨I.ok.frames,I.ok.gd,I.ok.mod,I.bs,Nat.le_trans I.ok.bsz I.sz,I.stack,I.stkFree,I.hok,I.bare⟩
theorem Inv.after(I:Inv X pins σ H s)(h:CE X.stack X.prog X.w H s Q u s'):EP X pins σ Q u s':=by
 obtain⟨v,H',os,bare,un,hok,r,q⟩:=h;obtain⟨B,g,d,t,j⟩:=s';obtain rfl:j=s.os:=os;exact⟨v,H',I.call un hok bare (λb z=>absurd z (by simp)),r,q⟩
end
def fX2(sp:Sp)(dvs:List V)(E:XK)(t:TA):TE:=fun σ H Q=>t σ H λvs H1=>sp (vs++dvs) H1 Q E
def Binds(K:ar)(fd:dE)(ps:List Str)(ds:List ab):Prop :=
 ∀(s:ag) (us:List ab),K.In s.heap->(us++ds).length=ps.length->BindsTo s fd ⟨us,[]⟩ (ps.zip (us++ds))
theorem Binds.all{K:ar}(h:∀us:List ab,us.length=ps.length->bindArgs fd ⟨us,[]⟩=pure (ps.zip us)):Binds K fd ps []:=λs us _ hl=>by
 rw[ce] at hl ⊢;exact .of_eq (h us hl)
def cJq(CX:CXT)(X:Cx)(E:XK):Prop:=∀(pins:List (Addr×Obj)) (σ:St) (H:Hp) (s:ag) (e:ab) (s':ag),Inv X pins σ H s->CX X.stack H s E e s'->X.xe e s'
section
variable{X:Cx}{CX:CXT}{k:Nat}{f C:Addr}{fd:dE}{ps:List Str}{sp:Sp}{dvs:List V}{ds:List ab}{E:XK}{x m:Str}{p pos apos:Pos}{e o:Expr}{es:List Expr}{ta:TE}{t:TA}
theorem fX3{σ:St}(F:FnOk X.prog X.w X.K X.mg X.base CX k f fd ps sp)(hr:Room k X.A)(hb:Binds X.K fd ps ds)(hd:Vals dvs ds)(hx:cJq CX X E)
  (I:Inv X pins σ H s) (r:Vals vs us) (h:sp (vs++dvs) H Q E):aE (aF X.prog X.w) X.A (call (.ref f) us) (EP X pins σ Q) X.xe s:=by
 have z:=r.append hd;have hl:(us++ds).length=ps.length:=by rw[<- z.length];exact F.len _ _ _ _ h
 refine wpAny_call (gn (F.run X.A X.stack s H ⟨us,[]⟩ (us++ds) (vs++dvs) Q E hr I.env0 (hb s us I.kIn hl) z h) λr s' j=>?_);cases r with
 |error e=>exact hx pins σ H s e s' I j
 |ok fl =>
  cases fl with
  |ret u=>exact I.after j
  |next=>exact d5 j
  |brk=>exact d5 j
  |cont=>exact d5 j
theorem eX8(F:FnOk X.prog X.w X.K X.mg X.base CX k f fd ps sp)(hr:Room k X.A)(hg:Gl X x)(hm:X.mg x=some (.ref f))(hk:gb X.K (.ref f)=true)(hb:Binds X.K fd ps ds)(hd:Vals dvs ds)(hx:cJq CX X E)
  (ha:PA X (e::es) t) (hdb:(x==("__debug__":Str))=false:=by decide) (he:aD (e::es) X.env=(false,eval e X.env)::aD es X.env:=by rfl) (hpl:(cM pos (aD es X.env)).any (·.1)=false:=by rfl) :
  PE X (.Call (.Name x p) (e::es) [] pos) (fX2 sp dvs E t):=by
 intro pins s σ H Q I h;refine fI (ld_glob I hg hm ?_ hdb);refine PySem.W.callWith_K I.ok.mod.kin hk (thn (ha pos pins s σ H _ I h) λus s1 ⟨vs,H1,j,r,q⟩=>⟨j.kIn,?_⟩) he hpl;exact fX3 F hr hb hd hx j r q
end
structure FnScope(N P:List Str)(sc:Scope):Prop where
 kind:sc.kind=.function
 co:sc.isCoroutine=false
 gen:sc.isGenerator=false
 nd:N.Nodup
 pre:N.take P.length=P
 par:∀x∈P,sc.names.lookup x=some .local\/sc.names.lookup x=some .cell
 nofree:∀y∈sc.names,y.2≠.free
theorem bJ9{kindOf:Str->Option fP}:∀{binds:List (Str×ab)}{m:Str->Option ab},(∀v,(x,v)∉binds)->bindL kindOf binds m x=m x
 |[],_,_=>rfl
 |(n,v)::r,m,h=>by
  unfold bindL;rw[bJ9 λw hw=>h w (ak _ hw)]
  split
  ·have:x≠n:=by rintro rfl;exact h v ai
   simp[this]
  ·rfl
theorem bindC_out{kindOf:Str->Option fP}:∀{binds:List (Str×ab)}{m:Str->Option ab},(∀v,(x,v)∉binds)->bindC kindOf binds m x=m x
 |[],_,_=>rfl
 |(n,v)::r,m,h=>by
  unfold bindC;rw[bindC_out λw hw=>h w (ak _ hw)]
  split
  ·rfl
  ·have:x≠n:=by rintro rfl;exact h v ai
   simp[this]
theorem bindL_get{kindOf:Str->Option fP}:∀{P:List Str}{vs:List ab}{i:Nat}{m:Str->Option ab},P.Nodup->P[i]?=some x->vs[i]?=some v->kindOf x=some .local ->
  bindL kindOf (P.zip vs) m x=some v
 |[],_,_,_,_,h,_,_=>by simp at h
 |_::_,[],_,_,_,_,h,_=>by simp at h
 |p::P,w::vs,0,m,nd,h1,h2,j=>by
  simp at h1 h2;subst h1;subst h2;show bindL kindOf ((p,w)::P.zip vs) m p=_;unfold bindL;rw[bJ9 λv z=>(bo.mp nd).1 (kg z).1,if_pos j];simp
 |p::P,w::vs,i+1,m,nd,h1,h2,j=>by
  show bindL kindOf ((p,w)::P.zip vs) m x=_;exact bindL_get (bo.mp nd).2 (by simpa using h1) (by simpa using h2) j
theorem bJa{kindOf:Str->Option fP}:∀{P:List Str}{vs:List ab}{i:Nat}{m:Str->Option ab},P.Nodup->P[i]?=some x->vs[i]?=some v->kindOf x≠some .local ->
  bindC kindOf (P.zip vs) m x=some v
 |[],_,_,_,_,h,_,_=>by simp at h
 |_::_,[],_,_,_,_,h,_=>by simp at h
 |p::P,w::vs,0,m,nd,h1,h2,j=>by
  simp at h1 h2;subst h1;subst h2;show bindC kindOf ((p,w)::P.zip vs) m p=_;unfold bindC;rw[bindC_out λv z=>(bo.mp nd).1 (kg z).1,if_neg j];simp
 |p::P,w::vs,i+1,m,nd,h1,h2,j=>by
  show bindC kindOf ((p,w)::P.zip vs) m x=_;exact bJa (bo.mp nd).2 (by simpa using h1) (by simpa using h2) j
def start(N:List Str)(vs:List V):St:=vs.map some++i5 (N.length-vs.length) none
def cxOf(CX:CXT)(P:ax)(w:aK)(K:ar)(mg:Str->Option ab)(base:bb)(N:List Str)(qual:Str)(scope:Scope)(f:Addr)(cd:ab)(A:aU)(outer:List Env)(s:ag)(H:Hp)(E:XK):Cx where
 prog:=P
 w:=w
 K:=K
 mg:=mg
 base:=base
 A:=A.deeper (i6 qual scope s.heap.objs.size f cd)
 N:=N
 s₀:=s
 H₀:=H
 env:=i6 qual scope s.heap.objs.size f cd
 outer:=outer
 stack:=i6 qual scope s.heap.objs.size f cd::outer
 ex:=[]
 calm:=true
 fn:=λ_=>true
 pn:=[]
 xe:=λe s'=>aE (aF P w) (A.deeper (i6 qual scope s.heap.objs.size f cd)) (leaving (i6 qual scope s.heap.objs.size f cd) e) (λ_ s''=>CX outer H s E e s'') (λe' s''=>CX outer H s E e' s'') s'
theorem cZ8{sc:Scope}(h:sc.names.lookup x=some .cell):∃c,(eR n sc.names []).lookup x=some c:=by
 have q:=j1 sc.names n [] (.inl h);exact bM.mp q
theorem cJr{CX:CXT}{P:ax}{w:aK}{K:ar}{mg:Str->Option ab}{base:bb}{N ps:List Str}{qual:Str}{scope:Scope}{f:Addr}{cd:ab}{A:aU}{outer:List Env}{s s1:ag}{H:Hp}{E:XK}{us:List ab}{vs:List V}
  (S:FnScope N ps scope) (hd:A.handled=none) (e0:Env0 P w K mg base A outer s H) (hl:vs.length=ps.length) (r:Vals vs us)
  (x:InCallC s s.heap.objs.size (bindL (i6 qual scope s.heap.objs.size f cd).kindOf (ps.zip us) λ_=>none) (eR (s.heap.objs.size+1) scope.names []) (bindC (i6 qual scope s.heap.objs.size f cd).kindOf (ps.zip us) λ_=>none) s1) :
  Inv (cxOf CX P w K mg base N qual scope f cd A outer s H E) [] (start N vs) H s1:=by
 have Y:ps.length<=N.length:=by have:=congrArg dU S.pre;rw[aP] at this;lia
 obtain⟨h1,tk,rfl,O⟩:=x.done;have j:∀b:Addr,b∉(cxOf CX P w K mg base N qual scope f cd A outer s H E).ex:=λb z=>absurd (show b∈([]) from z) (by simp)
 refine⟨⟨e0.mod,S.kind,rfl,rfl,Nat.le_refl _,λy z c h1 h2=>?_,λy B=>?_,λy c _ h=>?_,λ_=>hd,aU.frames_deeper e0.frames,e0.gd,.inr ⟨rfl,rfl⟩,λb z=>absurd z (j b),e0.bs,e0.bsz,λb _ _=>j b,λb z=>absurd z (j b),e0.funs,e0.frf⟩,
  rfl,e0.bare,Un.kept O,⟨_,x.toInCall.ns,λi y v h1 h2 h3=>?_⟩,λy c h=>⟨_,x.cell y c h⟩,e0.hok.fresh (Nat.le_refl _),λy c h=>?_,λp G=>absurd (show p∈([]) from G) (by simp),e0.hok.kept O,?_⟩
 ·exact name_of_addr x.apart (fy h1) (fy h2)
 ·have B:=B;rcases B with B|B
  ·exact cZ8 B
  ·exact absurd rfl (S.nofree _ (fy B))
 ·exact Nat.le_of_lt (x.above y c (fy h))
 ·have hi:i<vs.length:=by
   unfold start at h2
   by_cases hi:i<vs.length
   ·exact hi
   ·rw[cA (by simpa using hi)] at h2
    rw[List.getElem?_replicate] at h2
    split at h2 <;> cases h2
  have Z:vs[i]?=some v:=by
   unfold start at h2;rw[d0 (by simpa using hi),aQ] at h2
   cases e:vs[i]? with
   |none=>rw[e] at h2;cases h2
   |some a=>rw[e] at h2;cases h2;rfl
  obtain⟨u,J,U⟩:=r.get Z;have G:ps[i]?=some y:=by
   rw[<- S.pre,gF (by lia)];exact h1
  have D:ps.Nodup:=by rw[<- S.pre];exact S.nd.sublist (cF _ _)
  refine⟨u,U,?_⟩;rcases S.par y (am G) with k|k
  ·exact .inl ⟨k,bindL_get D G J k⟩
  ·obtain⟨c,e⟩:=cZ8 k;refine .inr ⟨.inl k,c,e,?_⟩;have q:=x.cell y c e;rw[bJa D G J (by show scope.names.lookup y≠_;rw[k];decide)] at q
   exact q
 ·exact e0.hok.fresh (Nat.le_of_lt (x.above y c (fy h)))
 ·unfold start;show _=N.length;rw[au,ah,List.length_replicate];lia
theorem fX4{CX:CXT}{P:ax}{w:aK}{K:ar}{mg:Str->Option ab}{base:bb}{k:Nat}{f:Addr}{name qual:Str}{params:Arguments}{body:List Stmt}{scope:Scope}{dV kV doc pm cdv ct oc:ab}{an od:Option Addr}
  {osl:Array (Option ab)}{N ps:List Str}{sp:Sp}(lk:K.lookup f=some ⟨oc,od,.func (fc name qual params body scope dV kV doc pm an cdv ct),osl⟩) (hcd:g6 K cdv qual=true) (S:FnScope N ps scope)
  (len:∀vs H Q E,sp vs H Q E->vs.length=ps.length)
  (hbody:∀ (A:aU) (outer:List Env) (s:ag) (H:Hp) (vs:List V) (Q:VK) (E:XK),Room k (A.deeper (i6 qual scope s.heap.objs.size f cdv))->sp vs H Q E ->
   ∃t,PSs (cxOf CX P w K mg base N qual scope f cdv A outer s H E) body t/\t {nx:=λ_ H'=>Q .non H',rt:=Q} (start N vs) H) :
  FnOk P w K mg base CX (k+1) f (fc name qual params body scope dV kV doc pm an cdv ct) ps sp:=by
 refine⟨len,λA outer s H args us vs Q E G B Z r z=>?_⟩;have hl:=len _ _ _ _ z;have KX:=B.mod.kin.keeps λb o e=>(B.bs b o e).1;have lim:=B.mod.nolimit.keeps λb o e=>(B.bs b o e).1;have j:∀y∈ps.zip us,scope.names.lookup y.1=some .local\/(scope.names.lookup y.1=some .cell/\((eR (s.heap.objs.size+1) scope.names []).lookup y.1).isSome=true):=λ⟨n,v⟩ O=>by
  rcases S.par n (kg O).1 with q|q
  ·exact .inl q
  ·exact .inr ⟨q,j1 _ _ _ (.inl q)⟩
 refine codeAny_call_function G.depth (KX _ _ lk) rfl S.co S.gen rfl (PySem.W.codeRec_of KX hcd) (Z _ _ _ _ ?_);refine wpAny_newFunctionEnv_cells S.kind j λenv he s1 x=>?_;subst he;refine⟨lim.keeps x.toInCall.keep,codeAny_func ?_⟩;obtain⟨t,U,Y⟩:=hbody A outer s H vs Q E (G.deeper _) z;have I:Inv (cxOf CX P w K mg base N qual scope f cdv A outer s H E) [] (start N vs) H s1:=cJr S G.hd B hl r x;refine dw (U [] s1 (start N vs) H _ I Y) (λfl s' hs=>?_) λe s' hs=>hs;have fin:∀{σ':St}{H':Hp}{v:V}{u:ab},Inv (cxOf CX P w K mg base N qual scope f cdv A outer s H E) [] σ' H' s'->RelV v u->Q v H'->CE outer P w H s Q u s' :=
  λ{σ' H' v u} J D q=>⟨v,H',J.os,J.bare,J.base,J.hok,D,q⟩
 cases fl with
 |ret u =>
  obtain⟨v,σ',H',J,D,q⟩:=hs;exact fin J D q
 |next =>
  obtain⟨σ',H',J,q⟩:=hs;exact fin (v:=V.non) J rfl q
 |brk =>
  obtain⟨_,_,_,q⟩:=hs;exact d5 q
 |cont =>
  obtain⟨_,_,_,q⟩:=hs;exact d5 q
section
variable{X:Cx}{x:Str}{p pos:Pos}{e:Expr}{es:List Expr}{t:TA}{id T:String}{r:List V->Hp->VK->Prop}
def tCB(r:List V->Hp->VK->Prop)(t:TA):TE:=fun σ H Q=>t σ H λvs H1=>r vs H1 Q
theorem aJ0(hc:CallR X (.builtin id) r)(hg:Gl X x)(hm:X.mg x=none)(hv:cD x=some (.builtin id))(ha:PA X (e::es) t)(hn:x ≠ "__name__":=by decide)(hdb:(x==("__debug__":Str))=false:=by decide)
  (he:aD (e::es) X.env=(false,eval e X.env)::aD es X.env:=by rfl) (hpl:(cM pos (aD es X.env)).any (·.1)=false:=by rfl):PE X (.Call (.Name x p) (e::es) [] pos) (tCB r t):=by
 intro pins s σ H Q I h;refine fI (ld_blt I hg hm hv ?_ hn hdb);exact iw (thn (ha pos pins s σ H _ I h) λus s1 ⟨vs,H1,B,j,z⟩=>hc pins s1 σ H1 vs us Q B j z) he hpl
theorem bQ9(hc:CallR X (.type T) r)(hg:Gl X x)(hm:X.mg x=none)(hv:cD x=some (.type T))(ha:PA X (e::es) t)(hn:x ≠ "__name__":=by decide)(hdb:(x==("__debug__":Str))=false:=by decide)
  (he:aD (e::es) X.env=(false,eval e X.env)::aD es X.env:=by rfl) (hpl:(cM pos (aD es X.env)).any (·.1)=false:=by rfl):PE X (.Call (.Name x p) (e::es) [] pos) (tCB r t):=by
 intro pins s σ H Q I h;refine fI (ld_blt I hg hm hv ?_ hn hdb);exact eL (thn (ha pos pins s σ H _ I h) λus s1 ⟨vs,H1,B,j,z⟩=>hc pins s1 σ H1 vs us Q B j z) he hpl
end
end L2
namespace HT
open PySem PyProof.Rows
section
variable{prog:ax}{w:aK}{A:aU}{E:ab->ag->Prop}{s:ag}
theorem cat_tup(ht:gE s.heap t vs.toArray)(hb:gE s.heap b ws.toArray)(hv:vs≠[])
  (h1:ws=[]->Q (.ref t) s) (h2:ws≠[]->Q (.ref s.heap.objs.size) {s with heap:=s.heap.push {cls:=.type "tuple",data:=.seq (vs++ws).toArray}})
  (hsz:vs.length+ws.length<=sizeLine):aE (aF prog w) A (fb .Add (.ref t) (.ref b)) Q E s:=by
 obtain⟨⟨cls,dd,data,sl⟩,G,O,n,hd⟩:=id ht;obtain⟨⟨U,D,data2,z⟩,j,B,J,hd2⟩:=id hb;simp only at O hd B hd2;subst O hd B hd2;have e:vs.toArray++ws.toArray=(vs++ws).toArray:=by simp
 by_cases hw:ws=[]
 ·exact j3 ⟨_,G,rfl⟩ ⟨_,j,rfl⟩ jK seq_tuple_add g7 gV (gG _ _)
   (tuple_addW1 t b vs.toArray ws.toArray n J dd D sl z (by simpa using hv) (by simp[hw])) ⟨G,j,h1 hw⟩
 ·refine j3 ⟨_,G,rfl⟩ ⟨_,j,rfl⟩ jK seq_tuple_add g7 gV (gG _ _)
   (tuple_addW2 t b vs.toArray ws.toArray n J dd D sl z (by simpa using hv) (by simpa using hw) (by rw[ay,ay];exact hsz)) ⟨G,j,?_⟩
  rw[e];exact h2 hw
def sIx(n d:Nat):Option Int->Nat
 |none=>d
 |some v=>if v<0 then (v+(n:Int)).toNat else min v.toNat n
theorem sIx_none(n d:Nat):sIx n d none=d:=rfl
theorem sIx_nat(n d k:Nat):sIx n d (some k)=min k n:=by
 show(if k<0 then ((k:Int)+n).toNat else min (k:Int).toNat n)=min k n
 rw[if_neg (by lia),cO]
theorem fX5(n d:Nat)(hd:d<=n)(o:Option Int):sIx n d o<=n:=by
 cases o with
 |none=>exact hd
 |some v =>
  show(if v<0 then (v+n).toNat else min v.toNat n)<=n
  by_cases j:v<0
  ·rw[if_pos j];lia
  ·rw[if_neg j];exact Nat.min_le_right _ _
theorem cJs(v:Int)(n d:Nat):(if v<0 then max (v+n) 0 else min v n)=((sIx n d (some v))):=by
 show(if v<0 then max (v+n) 0 else min v n)=(((if v<0 then (v+n).toNat else min v.toNat n):Nat))
 by_cases j:v<0
 ·simp only[if_pos j];lia
 ·simp only[if_neg j];lia
theorem cXo(lo hi:Option Int)(n:Nat):gz lo hi 1 n=(((sIx n 0 lo):Int),((sIx n n hi):Int)):=by
 have h1:¬ (1<0):=by lia
 unfold gz;simp only[h1,if_false];refine Prod.ext ?_ ?_
 ·cases lo with
  |none=>rfl
  |some v=>exact cJs v n 0
 ·cases hi with
  |none=>rfl
  |some v=>exact cJs v n n
theorem cXp(i j:Nat):eX i j 1=j-i:=by
 unfold eX;have h1:1>0:=by lia
 simp only[h1,if_true,Int.ediv_one]
 split <;> lia
theorem bZh(p:IsPart v o)(h:Q o s):aE (aF prog w) A (cr.Slice.slicePartIndex v) Q E s:=by
 cases p with
 |none=>exact slicePart_none h
 |int i t=>exact slicePart_int h
theorem sliceApplied_gen{lo hi:Option Int}{n:Nat}(hs:s.heap.IsSliceOf sl vl vu .none)(pl:IsPart vl lo)(pu:IsPart vu hi)
  (h:Q (((sIx n 0 lo)),1,sIx n n hi-sIx n 0 lo) s):aE (aF prog w) A (gc (.ref sl) (pure n)) Q E s:=by
 obtain⟨os,j,B,z⟩:=id hs;refine aa (aa (ew j z rfl (aa (ew j z rfl (aa (ew j z rfl (ad ?_)))))));refine aa (slicePart_none ?_);rw[if_neg (by decide)]
 refine aa (bZh pl (aa (bZh pu (aa (ad ?_)))));show aE _ _ (match gz lo hi 1 n with|(lo,hi)=>pure (lo,(1:Int),eX lo hi 1)) _ _ s
 rw[cXo lo hi n];show aE _ _ (pure (((sIx n 0 lo):Int),1,eX ((sIx n 0 lo)) ((sIx n n hi)) 1)) _ _ s;rw[cXp];exact ad h
theorem dJ1(xs:Array ab)(i k:Nat):((a4 k).filterMap λ(m:Nat)=>xs[((i:Int)+m*1).toNat]?).toArray=((xs.toList.drop i).take k).toArray:=by
 have e:(λ(m:Nat)=>xs[((i:Int)+m*1).toNat]?)=λm=>xs[i+m]?:=by
  funext m
  have:((i:Int)+m*1).toNat=i+m:=by lia
  rw[this]
 rw[e]
 have:=pick_run xs i k
 rw[List.filterMap_map] at this;have j:((λx=>xs[x]?)∘λx=>i+x)=λm=>xs[i+m]?:=rfl;rw[j] at this;rw[this]
theorem getItem_tuple_cut{lo hi:Option Int}(ht:gE s.heap t items)(hs:s.heap.IsSliceOf sl vl vu .none)(pl:IsPart vl lo)(pu:IsPart vu hi)
  (hw:¬ (sIx items.size 0 lo=0/\sIx items.size items.size hi=items.size))
  (h:Q (.ref s.heap.objs.size) {s with heap:=s.heap.push {cls:=.type "tuple",data:=.seq ((items.toList.drop (sIx items.size 0 lo)).take (sIx items.size items.size hi-sIx items.size 0 lo)).toArray}})
  (hsz:items.size<=sizeLine):aE (aF prog w) A (j4 (.ref t) (.ref sl)) Q E s:=by
 have j:sizeOk (.seq ((items.toList.drop (sIx items.size 0 lo)).take (sIx items.size items.size hi-sIx items.size 0 lo)).toArray):=by
  show((items.toList.drop (sIx items.size 0 lo)).take (sIx items.size items.size hi-sIx items.size 0 lo)).toArray.size<=sizeLine;rw[ay,aP,bR,aW];lia
 have Y:sIx items.size items.size hi<=items.size:=fX5 _ _ (Nat.le_refl _) hi;obtain⟨os,z,D,J⟩:=id hs;have G:s.TypeIs (.ref sl) "slice":=⟨os,z,D⟩;unfold j4
 try with_reducible refine bS ?_
 first|refine aa (ad ?_)|skip
 refine aa (wpAny_sequenceKey ht.typeIs (by decide) ?_)
 refine aa (cN ht.typeIs cJ
  (b9 cJ ht.typeIs entry_tuple_getitem ?_ (args_tuple_getitem _ _)))
 show aE _ _ (gf (.ref t)>>=_) _ _ s;refine aa (tupleItemsOf_ ht ?_);refine aa (g8 G ?_);rw[if_pos (by decide)]
 refine aa (sliceApplied_gen hs pl pu ?_);have B:¬ ((((sIx items.size 0 lo):Int)==0&&(1:Int)==1&&(sIx items.size items.size hi-sIx items.size 0 lo)==items.size)=true):=by
  intro q;rw[aV,aV] at q;have U:=iW q.1.1;have O:=iW q.2;exact hw ⟨by lia,by lia⟩
 show aE _ _ (if (((sIx items.size 0 lo):Int)==0&&1==1&&(sIx items.size items.size hi-sIx items.size 0 lo)==items.size)=true then _ else _) _ _ s
 rw[if_neg B,dJ1]
 first
  |exact aa (bi (ad ⟨_,rfl,ad h⟩) j)
  |exact aa (bi (aa (ad (ad ⟨_,rfl,ad h⟩))) j)
  |exact aa (aa (bi (ad (ad ⟨_,rfl,ad h⟩)) j))
  |exact aa (aa (bi (ad ⟨_,rfl,ad h⟩) j))
end
end HT
namespace L2
open PySem PySem.Spec PyProof.Rows
abbrev TO:=St->Hp->(Option Int->Hp->Prop)->Prop
def PO(X:Cx)(e:Option Expr)(t:TO):Prop :=
 ∀(pins:List (Addr×Obj)) (s:ag) (σ:St) (H:Hp) (Q:Option Int->Hp->Prop),Inv X pins σ H s->t σ H Q ->
  aE (aF X.prog X.w) X.A (evalPart e X.env) (λu s'=>∃o H',Inv X pins σ H' s'/\IsPart u o/\Q o H') X.xe s
def eX9:TO:=λ_ H Q=>Q none H
def gZo(t:TE):TO:=fun σ H Q=>t σ H λx H1=>∃i,x=.int i/\Q (some i) H1
theorem bZi:∀{us:List ab},Vals (ns.map V.int) us->iQ us ns:=by
 induction ns with
 |nil=>intro us r;rw[fJ] at r;cases r;exact .nil
 |cons n ns B =>
  intro us r;rw[aL] at r;cases r with
  |cons z j =>
   obtain⟨t,e⟩:=z;subst e;exact .cons n t (B j)
section
variable{X:Cx}{e:Expr}{te:TE}{lo hi:Option Expr}{tl th:TO}{pos p2:Pos}
theorem eXa:PO X none eX9:=by
 intro pins s σ H Q I h;rw[evalPart_none];exact ad ⟨none,H,I,.none,h⟩
theorem eXb(h:PE X e te):PO X (some e) (gZo te):=by
 intro pins s σ H Q I hw;rw[evalPart_some];refine thn (h pins s σ H _ I hw) λu s1 ⟨x,H1,B,j,z⟩=>?_;obtain⟨i,rfl,q⟩:=z;obtain⟨t,rfl⟩:=j;exact⟨some i,H1,B,.int i t,q⟩
def SlR(X:Cx)(r:V->Option Int->Option Int->Hp->VK->Prop):Prop :=
 ∀(pins:List (Addr×Obj)) (s:ag) (σ:St) (H:Hp) (x:V) (v vl vu:ab) (lo hi:Option Int) (sl:Addr) (Q:VK),Inv X pins σ H s->RelV x v->s.heap.IsSliceOf sl vl vu .none->IsPart vl lo->IsPart vu hi->r x lo hi H Q ->
  ∃T id,typeLookup (.type T) "__getitem__"=pure (some (.builtin id))/\s.TypeIs v T/\aE (aF X.prog X.w) X.A (j4 v (.ref sl)) (EP X pins σ Q) X.xe s
theorem SlR.or(h:SlR X r)(h':SlR X r'):SlR X (λx lo hi H Q=>r x lo hi H Q\/r' x lo hi H Q):=by
 intro pins s σ H x v z j lo hi sl Q I B hs pl pu q;rcases q with q|q
 ·exact h pins s σ H x v z j lo hi sl Q I B hs pl pu q
 ·exact h' pins s σ H x v z j lo hi sl Q I B hs pl pu q
def tSl(r:V->Option Int->Option Int->Hp->VK->Prop)(te:TE)(tl th:TO):TE:=fun σ H Q=>te σ H λx H1=>tl σ H1 λl H2=>th σ H2 λu H3=>r x l u H3 Q
theorem dJ2(hr:SlR X r)(he:PE X e te)(hl:PO X lo tl)(hu:PO X hi th):PE X (.Subscript e (.Slice lo hi none p2) pos) (tSl r te tl th):=by
 intro pins s σ H Q I h;refine Subscript_ (thn (he pins s σ H _ I h) λv s1 ⟨x,H1,I1,D,O⟩=>?_);refine wpAny_Slice (thn (hl pins s1 σ H1 _ I1 O) λz s2 ⟨l,H2,I2,pl,J⟩=>thn (hu pins s2 σ H2 _ I2 J) λj s3 ⟨u,B,I3,pu,G⟩=>?_);rw[evalPart_none];refine ad ?_;have I4:Inv X pins σ B {s3 with heap:=s3.heap.push {cls:=.type "slice",data:=.fields #[z,j,.none]}}:=I3.kept λb ob q=>ae _ q
 obtain⟨T,id,Z,U,Y⟩:=hr pins {s3 with heap:=s3.heap.push {cls:=.type "slice",data:=.fields #[z,j,.none]}} σ B x v z j l u s3.heap.objs.size Q I4 D (bb.IsSliceOf.new ..) pl pu G;exact tail_any U Z Y (by with_unfolding_all rfl)
def cutV(xs:List V)(lo hi:Option Int):List V:=(xs.drop (HT.sIx xs.length 0 lo)).take (HT.sIx xs.length xs.length hi-HT.sIx xs.length 0 lo)
theorem bQa(xs:List V)(lo hi:Option Int):(cutV xs lo hi).length<=xs.length:=by
 unfold cutV;rw[aP,bR];lia
def rSlT(K:ar):V->Option Int->Option Int->Hp->VK->Prop:=λx lo hi H Q=>∃a xs,x=.ref a/\SqT K H a xs /\
 ¬ (HT.sIx xs.length 0 lo=0/\HT.sIx xs.length xs.length hi=xs.length)/\∀p,H p=none->Q (.ref p) (upd H p (.tup (cutV xs lo hi)))
theorem fX6:SlR X (rSlT X.K):=by
 intro pins s σ H x v J G lo hi sl Q I rx hs pl pu h;obtain⟨a,xs,rfl,D,hw,q⟩:=h;cases rx;obtain⟨j,r,B,z⟩:=I.tuple D;have hlen:j.toArray.size=xs.length:=by rw[ay];exact r.length.symm
 refine⟨"tuple",_,cJ.lookup,B.typeIs,?_⟩;refine HT.getItem_tuple_cut B hs pl pu (by rw[hlen];exact hw) ?_ (by rw[hlen];exact z)
 rw[hlen];refine⟨.ref s.heap.objs.size,_,I.laid (λb O q=>ae _ q) (Nat.le_refl _) ?_,rfl,q _ (I.hok.fresh (Nat.le_refl _))⟩;exact⟨Nat.le_trans (bQa xs lo hi) z,_,(r.drop (HT.sIx xs.length 0 lo)).take (HT.sIx xs.length xs.length hi-HT.sIx xs.length 0 lo),gE.new _ _,bJ5⟩
def eXc(K:ar):R2:=λx y H Q=>∃a b xs ys,x=.ref a/\y=.ref b/\SqT K H a xs/\SqT K H b ys/\xs≠[]/\xs.length+ys.length<=sizeLine /\
 (ys=[]->Q (.ref a) H)/\(ys≠[]->∀p,H p=none->Q (.ref p) (upd H p (.tup (xs++ys))))
theorem Vals.nil_iff(r:Vals xs us):us=[]↔xs=[]:=by
 cases r with
 |nil=>simp
 |cons _ _=>simp
theorem eXd:OpR X (fb .Add) (eXc X.K):=by
 intro pins s σ H x y v u Q I rx ry h;obtain⟨a,b,xs,ys,rfl,rfl,ha,hb,Z,G,O,J⟩:=h;cases rx;cases ry;obtain⟨Y,B,U,_⟩:=I.tuple ha;obtain⟨D,j,p2,_⟩:=I.tuple hb;refine HT.cat_tup U p2 (λz=>Z (B.nil_iff.mp z)) (λz=>⟨.ref a,H,I,rfl,O (j.nil_iff.mp z)⟩) (λz=>?_) (by rw[<- B.length,<- j.length];exact G)
 refine⟨.ref s.heap.objs.size,_,I.laid (λb ob q=>ae _ q) (Nat.le_refl _) ?_,rfl,J (λw=>z (j.nil_iff.mpr w)) _ (I.hok.fresh (Nat.le_refl _))⟩;exact⟨by rw[au];exact G,_,B.append j,gE.new _ _,bJ5⟩
end
def ixN(n:Nat)(i:Int):Option Nat:=if 0<=i then (if i<n then some i.toNat else none) else if -(n:Int)<=i then some (i+n).toNat else none
def atI{α:Type}(xs:List α)(i:Int):Option α:=(ixN xs.length i).bind λj=>xs[j]?
theorem eXe(h:ixN n i=some j):seqIndex? i n=some j/\j<n/\-n<=i/\i<n:=by
 unfold ixN at h
 by_cases h0:0<=i
 ·rw[if_pos h0] at h
  by_cases h1:i<n
  ·rw[if_pos h1] at h;have e:=a7 h;exact⟨by rw[seqIndex_of h0 h1,e],by lia,by lia,h1⟩
  ·rw[if_neg h1] at h;cases h
 ·rw[if_neg h0] at h
  by_cases h1:-n<=i
  ·rw[if_pos h1] at h;have e:=a7 h;exact⟨by rw[seqIndex_neg (by lia) h1,e],by lia,h1,by lia⟩
  ·rw[if_neg h1] at h;cases h
theorem cQ9{xs:List α}{v:α}(h:atI xs i=some v):∃j,seqIndex? i xs.length=some j/\xs[j]?=some v/\j<xs.length/\-xs.length<=i/\i<xs.length:=by
 unfold atI at h;cases e:ixN xs.length i with
 |none=>rw[e] at h;cases h
 |some j =>
  rw[e] at h;obtain⟨h1,h2,B,z⟩:=eXe e;exact⟨j,h1,h,h2,B,z⟩
theorem aJe{xs:List α}{j:Nat}{v:α}(h:xs[j]?=some v):atI xs j=some v:=by
 have z:=(aH.mp h).1;have e:ixN xs.length j=some j:=by
  unfold ixN;rw[if_pos (by lia),if_pos (by lia)];simp
 unfold atI;rw[e];exact h
def PlainIx(b:Expr):Prop:=∀o i,subscripted b false o i=operate [o,i] (j4 o i)
def IxR(X:Cx)(r:R2):Prop :=
 ∀(value slice:Expr) (pins:List (Addr×Obj)) (s:ag) (σ:St) (H:Hp) (x y:V) (v u:ab) (Q:VK),Inv X pins σ H s->RelV x v->RelV y u->r x y H Q ->
  subscripted slice false v u=operate [v,u] (j4 v u)->aE (aF X.prog X.w) X.A (subscriptTail value slice v u) (EP X pins σ Q) X.xe s
def MtR(X:Cx)(id:String)(r:V->List V->Hp->VK->Prop):Prop :=
 ∀(pins:List (Addr×Obj)) (s:ag) (σ:St) (H:Hp) (x:V) (xs:List V) (v:ab) (us:List ab) (Q:VK),Inv X pins σ H s->RelV x v->Vals xs us->r x xs H Q ->
  aE (aF X.prog X.w) X.A (call (.builtin id) (v::us)) (EP X pins σ Q) X.xe s
section
variable{X:Cx}{a b:Expr}{ta tb:TE}{pos:Pos}
theorem IxR.or(h:IxR X r)(h':IxR X r'):IxR X (λx y H Q=>r x y H Q\/r' x y H Q):=by
 intro value slice pins s σ H x y v u Q I z j q hs;rcases q with q|q
 ·exact h value slice pins s σ H x y v u Q I z j q hs
 ·exact h' value slice pins s σ H x y v u Q I z j q hs
theorem pe_ix(hr:IxR X r)(ha:PE X a ta)(hb:PE X b tb)(hs:PlainIx b):PE X (.Subscript a b pos) (tOp r ta tb):=by
 intro pins s σ H Q I h;exact Subscript_ (binT ha hb I h λv u s2 x y H2 B z j q=>hr a b pins s2 σ H2 x y v u Q B z j q (hs _ _))
def rIxL(K:ar):R2:=λx y H Q=>∃p xs i v,x=.ref p/\y=.int i/\SqL K H p xs/\atI xs i=some v/\Q v H
def rIxT(K:ar):R2:=λx y H Q=>∃p xs i v,x=.ref p/\y=.int i/\SqT K H p xs/\atI xs i=some v/\Q v H
def rIxS:R2:=λx y H Q=>∃z i c,x=.str z/\y=.int i/\z.length<=sizeLine/\atI z.cps.toList i=some c/\Q (.str ⟨#[c]⟩) H
theorem ix_list:IxR X (rIxL X.K):=by
 intro value slice pins s σ H x y v u Q I rx O h hs;obtain⟨p,xs,i,z,rfl,rfl,U,he,q⟩:=h;cases rx;obtain⟨t,rfl⟩:=O;obtain⟨D,r,pl,hz⟩:=I.list U;obtain⟨j,h1,h2,h3,Z,Y⟩:=cQ9 he;obtain⟨w,J,B⟩:=r.get h2;have hl:=r.length;have hn:=bJ8;have fin:EP X pins σ Q w s:=⟨z,H,I,B,q⟩
 by_cases h0:0<=i
 ·have G:i.toNat=j:=by
   rw[seqIndex_of h0 Y] at h1;exact a7 h1
  exact item_listR pl.isList h0 (by lia) (by rw[G];simpa using J) fin hs
 ·have G:(i+D.toArray.size).toNat=j:=by
   rw[seqIndex_neg (by lia) Z] at h1
   rw[ay,<- hl];exact a7 h1
  exact subscriptTail_builtinR pl.isList.typeIs slot_list_getitem.lookup
   (wpAny_getItem_list_neg pl.isList (by lia) (by rw[ay] <;> lia) (by lia) (by rw[G];simpa using J) ⟨rfl,fin⟩) hs
theorem ix_tup:IxR X (rIxT X.K):=by
 intro value slice pins s σ H x y v u Q I rx D h hs;obtain⟨p,xs,i,z,rfl,rfl,J,he,q⟩:=h;cases rx;obtain⟨t,rfl⟩:=D;obtain⟨G,r,pl,U⟩:=I.tuple J;obtain⟨j,h1,h2,h3,h4,Z⟩:=cQ9 he;obtain⟨w,O,B⟩:=r.get h2;have hl:=r.length;have Y:=bJ8;have fin:EP X pins σ Q w s:=⟨z,H,I,B,q⟩;exact subscriptTail_builtinR pl.typeIs slot_tuple_getitem.lookup
  (getItem_tuple pl (by lia) (by lia) (by rw[ay,<- hl];exact h1) (by simpa using O) ⟨rfl,fin⟩) hs
theorem fX7:IxR X rIxS:=by
 intro value slice pins s σ H x y v u Q I D B h hs;obtain⟨z,i,c,rfl,rfl,Z,he,q⟩:=h;obtain⟨t,rfl⟩:=D;obtain⟨Y,rfl⟩:=B;obtain⟨j,h1,h2,h3,J,G⟩:=cQ9 he;have hl:z.cps.toList.length=z.length:=by simp[Str.length]
 rw[hl] at h1 J G;have hn:=bJ8;exact tail_any (typeIs_str s z t) slot_str_getitem.lookup (getItem_str (by
  have U:decide (i < -(2^63))=false:=decide_eq_false (by lia)
  have O:decide (i>=2^63)=false:=decide_eq_false (by lia)
  rw[U,O,Bool.or_false]) (by rw[h1];simpa using h2) ⟨.str ⟨#[c]⟩,H,I.tok _,⟨_,rfl⟩,q⟩) hs
def rIx(K:ar):R2:=λx y H Q=>rIxL K x y H Q\/rIxT K x y H Q\/rIxS x y H Q
theorem fX8:IxR X (rIx X.K):=ix_list.or (ix_tup.or fX7)
theorem bJb(lo hi:Option Int)(n:Nat):(gW lo hi none n).1=((HT.sIx n 0 lo))/\(gW lo hi none n).2.1=((HT.sIx n n hi))/\(gW lo hi none n).2.2=1:=by
 refine⟨?_,?_,rfl⟩
 ·cases lo with
  |none=>simp[gW,HT.sIx]
  |some i =>
   simp only[gW,HT.sIx,jL,show(1:Int)>0 by decide,if_true]
   by_cases h:i<0
   ·simp only[h,if_true] <;> lia
   ·simp only[h,if_false] <;> lia
 ·cases hi with
  |none=>simp[gW,HT.sIx]
  |some i =>
   simp only[gW,HT.sIx,jL,show(1:Int)>0 by decide,if_true]
   by_cases h:i<0
   ·simp only[h,if_true] <;> lia
   ·simp only[h,if_false] <;> lia
theorem bZz(its:List ab)(lo hi:Option Int):slicePick its.toArray lo hi none=((its.drop (HT.sIx its.length 0 lo)).take (HT.sIx its.length its.length hi-HT.sIx its.length 0 lo)).toArray:=by
 obtain⟨h1,h2,j⟩:=bJb lo hi its.toArray.size;unfold slicePick;rw[h1,h2,j];simp only[sliceRange_one,pick_run,ay] <;> rfl
def rSlL(K:ar):V->Option Int->Option Int->Hp->VK->Prop:=λx lo hi H Q=>∃a xs,x=.ref a/\SqL K H a xs/\∀p,H p=none->Q (.ref p) (upd H p (.lst (cutV xs lo hi)))
theorem eXf:SlR X (rSlL X.K):=by
 intro pins s σ H x v J G lo hi sl Q I rx hs pl pu h;obtain⟨a,xs,rfl,D,q⟩:=h;cases rx;obtain⟨z,r,j,B⟩:=I.list D;have hlen:=r.length;refine⟨"list",_,slot_list_getitem.lookup,j.isList.typeIs,?_⟩;refine wpAny_getItem_list_slice j.isList hs pl pu .none (by simp) ?_ (by rw[ay] <;> lia)
 rw[bZz,<- hlen];refine⟨.ref s.heap.objs.size,_,I.laid (λb O q=>ae _ q) (Nat.le_refl _) ?_,rfl,q _ (I.hok.fresh (Nat.le_refl _))⟩;exact⟨Nat.le_trans (bQa xs lo hi) B,_,0,(r.drop (HT.sIx xs.length 0 lo)).take (HT.sIx xs.length xs.length hi-HT.sIx xs.length 0 lo),aq _ rfl⟩
theorem CallR.or(h:CallR X f r)(h':CallR X f r'):CallR X f (λxs H Q=>r xs H Q\/r' xs H Q):=by
 intro pins s σ H xs us Q I rs q;rcases q with q|q
 ·exact h pins s σ H xs us Q I rs q
 ·exact h' pins s σ H xs us Q I rs q
theorem call_list_of:CallR X (.type "list") (λxs H Q=>∃p ys,xs=[.ref p]/\(SqL X.K H p ys\/SqT X.K H p ys)/\∀l,H l=none->Q (.ref l) (upd H l (.lst ys))):=by
 intro pins s σ H xs us Q I r h;obtain⟨p,ys,rfl,G,q⟩:=h;obtain⟨u,rfl,rx⟩:=aX3 r;cases rx;have fin:∀(j:List ab),Vals ys j->ys.length<=sizeLine->∀(h':bb) (B:Nat),(∀b o',s.heap.get? b=some o'->h'.get? b=some o') ->
   h'.get? s.heap.objs.size=some {cls:=.type "list",dict:=none,data:=.seq j.toArray B,slots:=#[]}->EP X pins σ Q (.ref s.heap.objs.size) {s with heap:=h'}:=λj z D h' B kp e =>
  ⟨.ref s.heap.objs.size,_,I.laid kp (Nat.le_refl _) (show ObjOk X.prog X.w _ h' _ (.lst ys) from⟨D,j,B,z,e⟩),rfl,q _ (I.hok.fresh (Nat.le_refl _))⟩
 rcases G with G|G
 ·obtain⟨j,z,pl,D⟩:=I.list G;have hlen:=z.length;obtain⟨o,J,O,n,hd⟩:=pl.isList;exact call_list_seq p (.inl rfl) J O hd (λh' B kp e=>fin j z D h' B kp e) (by simp only[ay] <;> lia)
 ·obtain⟨j,z,pl,D⟩:=I.tuple G;have hlen:=z.length;obtain⟨o,J,O,n,hd⟩:=pl;exact call_list_seq p (.inr rfl) J O hd (λh' B kp e=>fin j z D h' B kp e) (by simp only[ay] <;> lia)
theorem bX0:CallR X (.type "tuple") (λxs H Q=>∃p ys,xs=[.ref p]/\((SqL X.K H p ys/\∀l,H l=none->Q (.ref l) (upd H l (.tup ys)))\/(SqT X.K H p ys/\Q (.ref p) H))):=by
 intro pins s σ H xs us Q I r h;obtain⟨p,ys,rfl,h⟩:=h;obtain⟨u,rfl,rx⟩:=aX3 r;cases rx;rcases h with⟨B,q⟩|⟨B,q⟩
 ·obtain⟨j,z,pl,D⟩:=I.list B;have hlen:=z.length;refine call_tuple_list pl.isList (λh' kp=>?_) (by simp only[ay] <;> lia)
  have G:Inv X pins σ H {s with heap:=h'}:=I.kept kp
  have J:Inv X pins σ (upd H h'.objs.size (.tup ys)) {s with heap:=h'.push {cls:=.type "tuple",data:=.seq j.toArray}} :=
   G.laid (λb o e=>ae _ e) (Nat.le_refl _) (⟨D,j,z,gE.new _ _,bJ5⟩)
  exact⟨.ref h'.objs.size,_,J,rfl,q _ (G.hok.fresh (Nat.le_refl _))⟩
 ·obtain⟨j,z,pl,D⟩:=I.tuple B;exact call_tuple_same pl ⟨.ref p,H,I,rfl,q⟩
def tyV(K:ar)(T:String)(x:V)(H:Hp):Prop:=match x with
 |.str _=>T="str"
 |.int _=>T="int"
 |.ref p=>(T="list"/\∃xs,SqL K H p xs)\/(T="tuple"/\∃o,K.lookup p=some o/\o.cls=.type "tuple"/\o.dict=none) \/
   (T="dict"/\((∃kvs,H p=some (.dK kvs))\/∃kvs,H p=some (.dT kvs)))\/(T="set"/\∃S n,H p=some (.set S n))
 |_=>False
theorem fX9{σ:St}(I:Inv X pins σ H s)(r:RelV x v)(ty:tyV X.K T x H) :
  s.TypeIs v T/\∀a,v=.ref a->∃ob,s.heap.get? a=some ob/\ob.dict=none:=by
 cases x with
 |str z =>
  obtain⟨t,rfl⟩:=r;cases (ty)
  exact⟨typeIs_str s z t,λ_ e=>nomatch e⟩
 |int i =>
  obtain⟨t,rfl⟩:=r;cases (ty)
  exact⟨typeIs_int s i t,λ_ e=>nomatch e⟩
 |ref p =>
  cases r;rcases ty with⟨rfl,xs,G⟩|⟨rfl,o,j,J,hd⟩|⟨rfl,j⟩|⟨rfl,S,n,j⟩
  ·obtain⟨D,_,pl,_⟩:=I.list G;refine⟨pl.isList.typeIs,λa e=>?_⟩;cases e;obtain⟨o,n,e,c,hd,_⟩:=pl;exact⟨o,e,hd⟩
  ·refine⟨⟨o,I.kIn p o j,J⟩,λa e=>?_⟩;cases e;exact⟨o,I.kIn _ o j,hd⟩
  ·have z:∃o,s.heap.get? p=some o/\o.ExactDict:=by
    rcases j with⟨B,j⟩|⟨B,j⟩
    ·obtain⟨_,_,_,_,o,_,_,e,ex,_⟩:=I.hok p _ j;exact⟨o,e,ex⟩
    ·obtain⟨_,_,_,_,o,_,_,e,ex,_⟩:=I.hok p _ j;exact⟨o,e,ex⟩
   obtain⟨o,e,ex⟩:=z;refine⟨⟨o,e,ex.1⟩,λa e2=>?_⟩;cases e2;exact⟨o,e,ex.2.1⟩
  ·obtain⟨o,_,_,_,e,ex,_⟩:=I.hok p _ j;refine⟨⟨o,e,ex.1⟩,λa e2=>?_⟩;cases e2;exact⟨o,e,ex.2.1⟩
 |_=>exact d5 ty
def tBM(K:ar)(T:String)(r:V->List V->Hp->VK->Prop)(to:TE)(t:TA):TE:=fun σ H Q=>to σ H λx H1=>tyV K T x H1/\t σ H1 λxs H2=>r x xs H2 Q
variable{o e:Expr}{es:List Expr}{to:TE}{t:TA}{name:Str}{apos cpos:Pos}{T id:String}{r:V->List V->Hp->VK->Prop}
theorem gZp(pa:PlainAttrs T)(slot:Slot T name id)(hty:typeOf (.builtin id)=pure (.type "method_descriptor"))(hm:MtR X id r)(ho:PE X o to)(ha:PA X (e::es) t)
  (hbase:gH o name X.env (eval o X.env)=eval o X.env:=by rfl)
  (hfew:((cM cpos (aD (e::es) X.env)).all (λx=>!x.1) && (kB cpos (iJ [] X.env)).all (λx=>x.1.isSome)
   && decide ((e::es).length+([]:List j5).length+(if ([]:List j5).isEmpty then 0 else 1)<30))=true:=by rfl)
  (hline:(apos.endLine==cpos.line)=true:=by rfl) (hs:aD (e::es) X.env=(false,eval e X.env)::aD es X.env:=by rfl) (hplain:(cM cpos (aD es X.env)).any (·.1)=false:=by rfl) :
  PE X (.Call (.Attribute o name apos) (e::es) [] cpos) (tBM X.K T r to t):=by
 intro pins s σ H Q I h;refine wpAny_Call_method_late hbase hfew hline rfl (thn (ho pins s σ H _ I h) λv s1 ⟨x,H1,B,j,ty,J⟩=>?_);obtain⟨h1,h2⟩:=fX9 B j ty;refine⟨T,id,pa,slot,hty,h1,h2,?_⟩;have z:=ha cpos pins s1 σ H1 _ B J;rw[hs] at z ⊢;refine g9 (by show(false||(cM cpos (aD es X.env)).any (·.1))=false;rw[hplain] <;> rfl) (Calls.evalArgs_plain ?_)
 exact thn z λus s2 ⟨vs,H2,O,D,G⟩=>hm pins s2 σ H2 x vs v us Q O j D G
end
def MtM(X:Cx)(id:String)(r:V->List V->Hp->VK->Prop):Prop :=
 ∀(pins:List (Addr×Obj)) (s:ag) (σ:St) (H:Hp) (x:V) (xs:List V) (v:ab) (us:List ab) (Q:VK),Inv X pins σ H s->RelV x v->Vals xs us->r x xs H Q ->
  aE (aF X.prog X.w) X.A (call (.builtin id) (v::us)) (EP X pins σ Q) X.xe s
theorem Vals.one:∀{x:V}{us:List ab},Vals [x] us->∃u,us=[u]/\RelV x u:=by
 intro x us h;cases h with
 |cons r t=>cases t;exact⟨_,rfl,r⟩
section
variable{X:Cx}{pins:List (Addr×Obj)}{σ:St}{H:Hp}{s:ag}{l b:Addr}{xs ys zs:List V}
theorem Inv.lset{its its':List ab}(I:Inv X pins σ H s)(hH:H l=some (.lst xs))
  (e:s.heap.get? l=some {cls:=.type "list",data:=.seq its.toArray n}) (hf:f its.toArray=its'.toArray) (hv:Vals ys its') (hz:ys.length<=sizeLine) :
  Inv X pins σ (upd H l (.lst ys)) {s with heap:=s.heap.update l (cf f),toks:=t'}:=by
 have q:=PySem.IsL.update e f;rw[hf] at q;refine I.write (by rw[hH];exact trivial) (.inl rfl) (λB u z j=>(br s.heap (cf f) (cE z)).trans j) ⟨_,q⟩ ?_
 exact⟨hz,its',_,hv,q⟩
theorem Inv.lnew(I:Inv X pins σ H s)(hv:Vals ys its)(hz:ys.length<=sizeLine) :
  Inv X pins σ (upd H s.heap.objs.size (.lst ys)) {s with heap:=s.heap.push {cls:=.type "list",data:=.seq its.toArray},toks:=t'} :=
 I.laid (λ_ _ q=>ae _ q) (Nat.le_refl _) ⟨hz,its,0,hv,aq _ rfl⟩
theorem Inv.fresh(I:Inv X pins σ H s):H s.heap.objs.size=none:=I.hok.fresh (Nat.le_refl _)
theorem Inv.lstM(I:Inv X pins σ H s)(hH:H l=some (.lst xs)):xs.length<=sizeLine/\∃(its:List ab) (n:Nat),Vals xs its/\xs.length=its.length/\s.heap.get? l=some {cls:=.type "list",data:=.seq its.toArray n}:=by
 obtain⟨z,its,n,r,e⟩:=I.hok l _ hH;exact⟨z,its,n,r,r.length,e⟩
theorem dJ3(h:n<=sizeLine):gI n=false:=decide_eq_false (by lia)
end
section
variable{X:Cx}
def eXg:V->List V->Hp->VK->Prop:=λx vs H Q=>∃l xs y,x=.ref l/\vs=[y]/\H l=some (.lst xs)/\xs.length<sizeLine/\Q .non (upd H l (.lst (xs++[y])))
theorem cJt:MtM X "list.append" eXg:=by
 intro pins s σ H x vs v us Q I rx D h;obtain⟨l,xs,y,rfl,rfl,B,J,q⟩:=h;cases rx;obtain⟨u,rfl,G⟩:=D.one;obtain⟨z,j,n,r,hl,e⟩:=I.lstM B;refine call_meets F.slot_list_append ⟨_,e,rfl⟩ F.entry_list_append (F.args_list_append_2 _ _) (PySem.list_append l j.toArray n u (by rw[ay];lia)) ⟨e,?_⟩
 refine⟨.non,_,I.lset B e (by simp) (r.append (.cons G .nil)) ?_,rfl,q⟩
 rw[au,d3];lia
def cJu:V->List V->Hp->VK->Prop:=λx vs H Q=>∃l b xs zs,x=.ref l/\vs=[.ref b]/\H l=some (.lst xs)/\H b=some (.lst zs)/\xs.length+zs.length<=sizeLine/\Q .non (upd H l (.lst (xs++zs)))
theorem cJv:MtM X "list.extend" cJu:=by
 intro pins s σ H x vs v us Q I rx O h;obtain⟨l,b,xs,zs,rfl,rfl,J,hB,hz,q⟩:=h;cases rx;obtain⟨u,rfl,ru⟩:=O.one;cases ru;obtain⟨z,B,n,r,hl,e⟩:=I.lstM J;obtain⟨z2,j,Y,U,Z,e2⟩:=I.lstM hB;have G:B.toArray.size+j.toArray.size<=sizeLine:=by rw[ay,ay];lia
 have D:¬ (!B.toArray.isEmpty&&gI (B.toArray.size+j.toArray.size))=true:=by
  rw[dJ3 G,kC];exact bh
 refine call_meets F.slot_list_extend ⟨_,e,rfl⟩ F.entry_list_extend (F.args_list_extend_2 _ _)
  (AutoSeq1.list_extend_list_list_0 l B.toArray n b j.toArray Y D (by rw[ay];lia) (by lia)) ⟨e,e2,?_⟩
 refine⟨.non,_,I.lset J e (by simp) (r.append U) ?_,rfl,q⟩
 rw[au];lia
end
section
variable{prog:ax}{w:aK}{A:aU}{E:ab->ag->Prop}{s:ag}
set_option maxRecDepth 100000 in
end
end L2
namespace Att
open PySem PySem.W PySem.Calls PyProof.Rows
theorem bQb:∀(ns:List Int) (vs:List ab),WellAll P h vs (ns.map WData.int)->iQ vs ns:=by
 intro ns
 induction ns with
 |nil =>
  intro vs w;rw[fJ] at w;cases w;exact .nil
 |cons n ns j =>
  intro vs w;rw[aL] at w;cases w with
  |cons a b =>
   cases a;exact .cons _ _ (j _ b)
theorem cJw{l:OpenLaw}(hn:l.most=some n){P:Params}{h:bb}{args:List WData}{vals:List ab}
  (hpre:l.row.toRowW.claim.pre args=true) (hwl:WellAll P h vals args) :
  ∃a vs ns,vals=[cY a]/\args=[WData.list (ns.map WData.int)]/\h.get? a=some {cls:=.type "list",data:=.seq vs.toArray}/\iQ vs ns/\ns.length<=n:=by
 have D:=(pre_splitW hpre).1;have G:=(pre_splitW hpre).2;obtain⟨d,r,rfl,h1,h2⟩:=hasAllW_cons D;obtain rfl:=hasAllW_nil h2;obtain⟨xs,rfl,U⟩:=hasW_list h1;obtain⟨ns,rfl⟩:=items_int U;have hlen:ns.length<=n:=by
  have B:(WTm.not (.lt (.lit (.int n)) (.len (.arg 0)))).holds [] {args:=[.list (ns.map .int)]}=true:=by
   have B:=(holds_andW G).1;rw[hn] at B;exact B
  have z:=condW_of B (w_not (w_lt w_lit (w_len_list (w_arg rfl))));rw[ah] at z;refine Nat.le_of_not_lt λq=>?_;have J:n<ns.length:=by lia
  first
   |(rw[decide_eq_true J] at z;exact absurd z (by decide))
   |(simp at z;lia)
 cases hwl with
 |cons w1 w2 =>
  cases w2;cases w1 with
  |list O j=>exact⟨_,_,ns,rfl,rfl,O,bQb ns _ j,hlen⟩
theorem cJx(l:OpenLaw)(args:List WData):l.row.toRowW.claim.post args (.bool true) args=true :=
 postW_of
  (by first|rfl|decide|simp[WShape.has,WShape.arms,WShape.armsAll])
  (w_eq_bool (w_res rfl) w_lit) rfl
theorem attach_call{l:OpenLaw}
  (hn:l.most=some n) (hdf:d.params.defaults=[])
  (call:∀ (w:aK) (s₀ s₁:ag) (mg mb:Str->Option ab) (fa:Addr) (o:Obj) (pm cd doc:ab) (a:Addr) (vs:List ab) (ns:List Int),
   Ground q loose [] XP w s₀ mg mb s₁.heap->YP w s₁.heap ->
   s₁.heap.get? fa=some o->o.data=.func (docDef d.name d.params d.body d.scope pm cd doc)->s₁.heap.CodeRec cd d.name->mg d.name=some (.ref fa) ->
   s₁.heap.get? a=some {cls:=.type "list",data:=.seq vs.toArray}->iQ vs ns->ns.length<=n->s₁.gens=#[] ->
   fx (aF l.prog w) callerA (.call (.ref fa) ⟨[.ref a],[]⟩) (λr s'=>r=.ok (.ret (.bool true))/\OldK s₁.heap s'.heap/\s'.os=s₁.os/\js s'.gens) s₁) :
  WalkO q loose XP YP l.row.toRowW d [] (λf vs=>PySem.call f vs):=by
 intro w s₀ s₁ mg mb G Y fa o pm cd doc dV kV ho hd J U D hg args vals as j O Z B hlo;obtain rfl:dV=.none:=Dflts.none U hdf;obtain rfl:kV=.none:=Dflts.noKw U;obtain⟨a,vs,ns,rfl,rfl,z,hints,hlen⟩:=cJw hn j B;refine enter_call (gn (call w s₀ s₁ mg mb fa o pm cd doc a vs ns G Y ho (fd_plain hd) J D z hints hlen hg) λr s' hq=>?_);obtain⟨rfl,h2,h3,h4⟩:=hq;exact⟨.inl ⟨.bool true,.bool true,[],rfl,λ_=>rfl,.bool true,cJx l _,λ_=>⟨ff,λ_ hm=>(nomatch hm)⟩⟩,h2,h3,h4⟩
end Att
namespace L2
open PySem PySem.Spec PyProof.Rows
theorem bQc:∀{vs:List ab}{ns:List Int},iQ vs ns->Vals (ns.map V.int) vs
 |_,_,.nil=>.nil
 |_,_,.cons n t h=>.cons ⟨t,rfl⟩ (bQc h)
abbrev KOf{K:ar}{h:bb}(_:K.In h):ar:=K
def aXq(s:Stmt):Arguments:=match s with
 |.FunctionDef _ a _ _ _ _ _ _ _ _=>a
 |_=>{posonlyargs:=[],args:=[],vararg:=none,kwonlyargs:=[],kw_defaults:=[],kwarg:=none,defaults:=[]}
def aZ6(s:Stmt):List Stmt:=match s with
 |.FunctionDef _ _ b _ _ _ _ _ _ _=>b
 |_=>[]
def aQ3(s:Stmt):Scope:=match s with
 |.FunctionDef _ _ _ _ _ _ sc _ _ _=>sc
 |_=>{kind:=.function,names:=[],isGenerator:=false,isCoroutine:=false}
abbrev CX0:CXT:=λ_ _ _ _ _ _=>False
abbrev E0:XK:=λ_ _ _=>False
theorem gZq:cJq CX0 X E0:=λ_ _ _ _ _ _ _ h=>h.elim
structure Fun(K:ar)(x qual:Str)(st:Stmt)(f:Addr)(fd:dE):Prop where
 ex:∃(oc:ab) (od:Option Addr) (kV doc pm:ab) (an:Option Addr) (cdv ct:ab) (osl:Array (Option ab)),
  fd=fc x qual (aXq st) (aZ6 st) (aQ3 st) .none kV doc pm an cdv ct/\K.lookup f=some ⟨oc,od,.func fd,osl⟩/\g6 K cdv qual=true
 kp:gb K (.ref f)=true
section
variable{P:ax}{w:aK}{K:ar}{mg:Str->Option ab}{base:bb}
theorem Fun.ok{x qual:Str}{st:Stmt}{f:Addr}{fd:dE}{N ps:List Str}{k:Nat}{sp:Sp}(F:Fun K x qual st f fd)(S:FnScope N ps (aQ3 st))(len:∀vs H Q E,sp vs H Q E->vs.length=ps.length)
  (hbody:∀ (cdv:ab) (A:aU) (outer:List Env) (s:ag) (H:Hp) (vs:List V) (Q:VK) (E:XK),Room k (A.deeper (i6 qual (aQ3 st) s.heap.objs.size f cdv))->sp vs H Q E ->
   ∃t,PSs (cxOf CX0 P w K mg base N qual (aQ3 st) f cdv A outer s H E).nox (aZ6 st) t/\t {nx:=λ_ H'=>Q .non H',rt:=Q} (start N vs) H):FnOk P w K mg base CX0 (k+1) f fd ps sp:=by
 obtain⟨oc,G,kV,doc,pm,an,cdv,ct,B,rfl,lk,z⟩:=F.ex;refine fX4 lk z S len λA outer s H vs Q E D j=>?_;obtain⟨t,h,q⟩:=hbody cdv A outer s H vs Q E D j;exact⟨t,h.nox,q⟩
theorem Fun.binds{st:Stmt}(F:Fun K x qual st f fd)
  (h:∀(kV doc pm:ab) (an:Option Addr) (cdv ct:ab) (us:List ab),us.length=ps.length->bindArgs (fc x qual (aXq st) (aZ6 st) (aQ3 st) .none kV doc pm an cdv ct) ⟨us,[]⟩=pure (ps.zip us)):Binds K fd ps []:=by
 obtain⟨oc,B,kV,doc,pm,an,cdv,ct,j,rfl,lk,z⟩:=F.ex;exact .all (h kV doc pm an cdv ct)
theorem eQn{st:Stmt}{kV doc pm cdv ct:ab}(l:K.lookup f=some ⟨oc,od,.func (fc x qual (aXq st) (aZ6 st) (aQ3 st) .none kV doc pm an cdv ct),osl⟩)
  (c:g6 K cdv qual=true) (k:gb K (.ref f)=true):Fun K x qual st f (fc x qual (aXq st) (aZ6 st) (aQ3 st) .none kV doc pm an cdv ct):=⟨⟨oc,od,kV,doc,pm,an,cdv,ct,osl,rfl,l,c⟩,k⟩
end
theorem iteF{A B:Prop}(h:B):if false=true then A else B:=by
 rw[if_neg bh];exact h
theorem iteT{A B:Prop}(h:A):if true=true then A else B:=by
 rw[if_pos rfl];exact h
theorem ite2{c A B:Prop}[Decidable c](h1:c->A)(h2:¬ c->B):if c then A else B:=by
 by_cases h:c
 ·rw[if_pos h];exact h1 h
 ·rw[if_neg h];exact h2 h
def Same(H H':Hp):Prop:=∀b o,H b=some o->H' b=some o
end L2
set_option maxHeartbeats 4000000
namespace L2
open PySem PySem.Spec PyProof.Rows
theorem aJf(env:Env):∀(names:List (Str×fP)) (acc:List (Str×Addr)),(∀x,(x,ba)∈names->∃c,env.cells.lookup x=some c)->(∀x c,acc.lookup x=some c->env.cells.lookup x=some c) ->
  ∃cl,(forIn names acc λ(y:Str×fP) cs=>(if (y.2==ba)=true then do let a <- cellOf env y.1;pure (bD ((y.1,a)::cs)) else pure (bD cs)))=pure cl /\
   (∀x c,cl.lookup x=some c->env.cells.lookup x=some c)/\(∀x,((x,ba)∈names\/(acc.lookup x).isSome=true)->(cl.lookup x).isSome=true)
 | [],acc,_,z=>⟨acc,by rfl,z,λx h=>by
   rcases h with h|h
   ·cases h
   ·exact h⟩
 |(n,k)::rest,acc,B,z=>by
  by_cases hk:(k==ba)=true
  ·have D:k=ba:=by cases k <;> first|rfl|cases hk
   subst D;obtain⟨c,G⟩:=B n ai;obtain⟨cl,e,h1,h2⟩:=aJf env rest ((n,c)::acc) (λx hx=>B x (ak _ hx)) (λx d hx=>by
    simp only[da] at hx
    by_cases j:(x==n)=true
    ·rw[j] at hx;cases hx;rw[iW j];exact G
    ·rw[fg.mpr j] at hx;exact z x d hx)
   refine⟨cl,?_,h1,λx hx=>h2 x ?_⟩
   ·rw[dW];have J:cellOf env n=pure c:=by unfold cellOf;rw[G]
    simp only[hk,if_true,J,iX];exact e
   ·rcases hx with hx|hx
    ·rcases av.mp hx with hx|hx
     ·cases hx;right;simp
     ·exact .inl hx
    ·right
     simp only[da];cases x==n <;> simp[hx]
  ·obtain⟨cl,e,h1,h2⟩:=aJf env rest acc (λx hx=>B x (ak _ hx)) z;refine⟨cl,?_,h1,λx hx=>h2 x ?_⟩
   ·rw[dW];simp only[hk,if_false,iX,aM];exact e
   ·rcases hx with hx|hx
    ·rcases av.mp hx with hx|hx
     ·cases hx;exact absurd rfl hk
     ·exact .inl hx
    ·exact .inr hx
inductive Cap(N:List Str)(sc:Scope):List Str->List (Option Nat)->Prop
 |nil:Cap N sc [] []
 |own {x xs is}:Cap N sc xs is->Cap N sc (x::xs) (none::is)
 |cap {x xs is i}:N[i]?=some x->(x,ba)∈sc.names->Cap N sc xs is->Cap N sc (x::xs) (some i::is)
theorem Cap.length(c:Cap N sc xs is):xs.length=is.length:=by
 induction c with
 |nil=>rfl
 |own _ j=>simp[j]
 |cap _ _ _ j=>simp[j]
theorem Cap.get(c:Cap N sc xs is):∀{j i:Nat}{x:Str},xs[j]?=some x->is[j]?=some (some i)->N[i]?=some x/\(x,ba)∈sc.names:=by
 induction c with
 |nil=>intro j i x h;simp at h
 |own _ z =>
  intro j i x h1 h2;cases j with
  |zero=>simp at h2
  |succ j=>exact z (by simpa using h1) (by simpa using h2)
 |cap B hf _ z =>
  intro j i x h1 h2;cases j with
  |zero=>simp at h1 h2;subst h1;subst h2;exact⟨B,hf⟩
  |succ j=>exact z (by simpa using h1) (by simpa using h2)
def capt(is:List (Option Nat))(σ:St):St:=is.map λo=>o.bind λi=>(σ[i]?).join
theorem aX4{sc:Scope}{env:Env}:∀{names:List (Str×fP)}{x:Str},(names.lookup x=some .cell\/names.lookup x=some .free)->((names.map λ(n,k)=>if (k==ba&&env.scope.kind ==.function&&env.kindOf n==some .cell) then (n,iE) else (n,k)).lookup x=some .cell\/(names.map λ(n,k)=>if (k==ba&&env.scope.kind ==.function&&env.kindOf n==some .cell) then (n,iE) else (n,k)).lookup x=some .free)
 |[],x,h=>by simp at h
 |(n,k)::r,x,h=>by
  simp only[aL]
  by_cases j:(k==ba&&env.scope.kind ==.function&&env.kindOf n==some .cell)=true
  ·rw[if_pos j];simp only[da] at h ⊢;cases hx:x==n with
   |true=>exact .inl rfl
   |false=>rw[hx] at h;exact aX4 (sc:=sc) h
  ·rw[if_neg j];simp only[da] at h ⊢;cases hx:x==n with
   |true=>rw[hx] at h;exact h
   |false=>rw[hx] at h;exact aX4 (sc:=sc) h
theorem aJg{sc:Scope}{env:Env}:∀{names:List (Str×fP)}{x:Str},((names.map λ(n,k)=>if (k==ba&&env.scope.kind ==.function&&env.kindOf n==some .cell) then (n,iE) else (n,k)).lookup x=some .cell\/(names.map λ(n,k)=>if (k==ba&&env.scope.kind ==.function&&env.kindOf n==some .cell) then (n,iE) else (n,k)).lookup x=some .free)->names.lookup x=some .cell\/names.lookup x=some .free
 |[],x,h=>by simp at h
 |(n,k)::r,x,h=>by
  simp only[aL] at h
  by_cases j:(k==ba&&env.scope.kind ==.function&&env.kindOf n==some .cell)=true
  ·rw[if_pos j] at h;simp only[da] at h ⊢;cases hx:x==n with
   |true =>
    right
    have:k==ba:=by
     simp only[aV] at j;exact j.1.1
    cases k <;> first|rfl|cases this
   |false=>rw[hx] at h;exact aJg (sc:=sc) h
  ·rw[if_neg j] at h;simp only[da] at h ⊢;cases hx:x==n with
   |true=>rw[hx] at h;exact h
   |false=>rw[hx] at h;exact aJg (sc:=sc) h
theorem bQd{α β:Type}[BEq α][LawfulBEq α]:∀{l:List (α×β)}{x:α}{k:β},l.lookup x=some k->(x,k)∈l
 |(n,j)::r,x,k,h=>by
  simp only[da] at h;cases hx:x==n with
  |true=>rw[hx] at h;cases h;rw[iW hx];exact ai
  |false=>rw[hx] at h;exact ak _ (bQd h)
def PTs(X:Cx)(ifs:List Expr)(t:TT):Prop :=
 ∀(pins:List (Addr×Obj)) (s:ag) (σ:St) (H:Hp) (Q:Bool->Hp->Prop),Inv X pins σ H s->t σ H Q ->
  aE (aF X.prog X.w) X.A (forIn ifs true λc r=>if r=true then do let ok <- isTrue c X.env (eval c X.env);pure (bD ok) else pure (bD r)) (TP X pins σ Q) X.xe s
def tYes:TT:=λ_ H Q=>Q true H
theorem eXh:PTs X [] tYes:=λpins s σ H Q I h=>wpAny_tests_nil ⟨H,I,h⟩
theorem eXi(h:PT X c t):PTs X [c] t:=λpins s σ H Q I q=>wpAny_tests_one (h pins s σ H Q I q)
def Wk(σ0 σ2:St):Prop:=σ2.length=σ0.length/\∀(j:Nat) v,σ0[j]?=some (some v)->σ2[j]?=some (some v)
def okV(names outer:List (Str×fP)):Bool:=names.all λy=>match y.2 with
 |.free=>match outer.lookup y.1 with
  |some .cell=>true
  |some .free=>true
  |_=>false
 |_=>true
theorem eQo(h:okV names sc.names=true):∀y∈names,y.2=.free->Vis sc y.1/\sc.names.lookup y.1≠some .local:=λy j hf=>by
 have:=bI.mp h y j
 rw[hf] at this;unfold Vis;cases q:sc.names.lookup y.1 with
 |none=>rw[q] at this;cases this
 |some k=>rw[q] at this;cases k <;> first|(simp;done)|cases this
structure Bs(mg:Str->Option ab):Prop where
 len:mg "len"=none
 range:mg "range"=none
 sorted:mg "sorted"=none
 tuple:mg "tuple"=none
 list:mg "list"=none
 set:mg "set"=none
 sum:mg "sum"=none
 min:mg "min"=none
 max:mg "max"=none
 all:mg "all"=none
 any:mg "any"=none
 isinstance:mg "isinstance"=none
 int:mg "int"=none
 str:mg "str"=none
 bool:mg "bool"=none
 zip:mg "zip"=none
 enumerate:mg "enumerate"=none
theorem cJy:cD "len"=some (.builtin "len"):=by decide +kernel
theorem aJ1:cD "sorted"=some (.builtin "sorted"):=by decide +kernel
theorem fXa:cD "sum"=some (.builtin "sum"):=by decide +kernel
theorem fXb:cD "min"=some (.builtin "min"):=by decide +kernel
theorem fXc:cD "max"=some (.builtin "max"):=by decide +kernel
theorem fXd:cD "all"=some (.builtin "all"):=by decide +kernel
theorem fXe:cD "any"=some (.builtin "any"):=by decide +kernel
theorem cZ9:cD "tuple"=some (.type "tuple"):=by decide +kernel
theorem eXj:cD "list"=some (.type "list"):=by decide +kernel
theorem eQp:cD "set"=some (.type "set"):=by decide +kernel
structure Df(P:ax)(w:aK)(K:ar)(mg:Str->Option ab)(base:bb)(k:Nat)(x:Str)(ps:List Str)(sp:Sp):Prop where
 ex:∃(f:Addr) (fd:dE),FnOk P w K mg base CX0 k f fd ps sp/\Binds K fd ps []/\gb K (.ref f)=true/\mg x=some (.ref f)
theorem Df.mono{K:ar}(D:Df P w K mg base j x ps sp)(h:j<=k):Df P w K mg base k x ps sp:=by
 obtain⟨f,fd,a,b,c,d⟩:=D.ex;exact⟨f,fd,a.mono h,b,c,d⟩
theorem dJ4{X:Cx}{k:Nat}{x:Str}{ps:List Str}{sp:Sp}{p pos:Pos}{e:Expr}{es:List Expr}{t:TA}(D:Df X.prog X.w X.K X.mg X.base k x ps sp)(hr:Room k X.A)(hg:Gl X x)(ha:PA X (e::es) t)
  (hdb:(x==("__debug__":Str))=false:=by decide) (he:aD (e::es) X.env=(false,eval e X.env)::aD es X.env:=by rfl) (hpl:(cM pos (aD es X.env)).any (·.1)=false:=by rfl) :
  PE X (.Call (.Name x p) (e::es) [] pos) (fX2 sp [] E0 t):=by
 obtain⟨f,fd,F,z,j,hm⟩:=D.ex;exact eX8 F hr hg hm j z .nil gZq ha hdb he hpl
structure Tx(K:ar)(mg:Str->Option ab)(x:Str)(st:Stmt):Prop where
 ex:∃(f:Addr) (fd:dE),Fun K x x st f fd/\mg x=some (.ref f)
theorem Tx.df{K:ar}{st:Stmt}(T:Tx K mg x st)
  (b:∀{f:Addr}{fd:dE},Fun K x x st f fd->Binds K fd ps []) (h:∀{f:Addr}{fd:dE},Fun K x x st f fd->FnOk P w K mg base CX0 k f fd ps sp):Df P w K mg base k x ps sp:=by
 obtain⟨f,fd,F,m⟩:=T.ex;exact⟨f,fd,h F,b F,F.kp,m⟩
theorem tx_mk{K:ar}{st:Stmt}{oc kV dc pm cd ct:ab}(X:K.In h)(G:h.Ns aX mg)
  (a:bO K aX x=some (some (.ref f))) (l:K.lookup f=some ⟨oc,od,.func (fc x x (aXq st) (aZ6 st) (aQ3 st) .none kV dc pm an cd ct),sl⟩) (c:g6 K cd x=true) (k:gb K (.ref f)=true):Tx K mg x st :=
 ⟨f,_,eQn l c k,jC X G a⟩
theorem bs_mk{K:ar}(X:K.In h)(G:h.Ns aX mg)(a:∀x∈(["len", "range", "sorted", "tuple", "list", "set", "sum", "min", "max", "all", "any", "isinstance", "int", "str", "bool", "zip", "enumerate"]:List Str),bO K aX x=some none):Bs mg:=by
 have q:=λx j=>PySem.W.mg_none_of X G (a x j);constructor <;> exact q _ (by decide +kernel)
theorem bs_all{K:ar}(z1:bO K aX "len"=some none)(z2:bO K aX "range"=some none)(z3:bO K aX "sorted"=some none)(z4:bO K aX "tuple"=some none)(z5:bO K aX "list"=some none)(z6:bO K aX "set"=some none)
  (z7:bO K aX "sum"=some none) (z8:bO K aX "min"=some none) (z9:bO K aX "max"=some none) (z10:bO K aX "all"=some none) (z11:bO K aX "any"=some none) (z12:bO K aX "isinstance"=some none)
  (z13:bO K aX "int"=some none) (z14:bO K aX "str"=some none) (z15:bO K aX "bool"=some none) (z16:bO K aX "zip"=some none) (z17:bO K aX "enumerate"=some none) :
  ∀x∈(["len", "range", "sorted", "tuple", "list", "set", "sum", "min", "max", "all", "any", "isinstance", "int", "str", "bool", "zip", "enumerate"]:List Str),bO K aX x=some none:=λx j=>by
 simp only[av,ix,or_false] at j;rcases j with rfl|rfl|rfl|rfl|rfl|rfl|rfl|rfl|rfl|rfl|rfl|rfl|rfl|rfl|rfl|rfl|rfl <;> assumption
end L2
set_option maxHeartbeats 1000000
namespace L2
open PySem PySem.Spec PyProof.Rows
def aXr(ifs:List Expr)(env:Env):Sem Bool:=forIn ifs true λc r=>if r=true then do let ok <- isTrue c env (eval c env);pure (bD ok) else pure (bD r)
def aQr(target:Expr)(ifs:List Expr)(at0:Pos)(m:Sem Unit)(c:Code)(it:ab)(env:Env):Sem Fin :=
 gk at0>>=λ_=>eJ it>>=λr=>match r with
  |none=>pure (.done .next)
  |some v=>dR target it v>>=λ_=>jB target env v>>=λ_=>aXr ifs env>>=λok=>if ok=true then m>>=λ_=>again c else again c
def emitOf(elt:Expr)(acc:ab)(env:Env):Sem Unit:=eval elt env>>=λx=>call (.builtin "list.append") [acc,x]>>=λ_=>pure ()
def innerOf(e:Expr)(iter:Expr)(acc:ab)(env:Env):Sem Unit:=eval iter env>>=λx=>gk iter.pos>>=λ_=>cy iter env x>>=λx=>jt [x] (iu x)>>=λit=>runOwn (.compStart e 1 it acc env) env>>=λ_=>pure ()
theorem aQg(elt target iter:Expr)(ifs:List Expr)(scope:Scope)(pos:Pos)(it acc:ab)(env:Env) :
  eA (.ListComp elt [⟨target,iter,ifs,0⟩] scope pos) 0 it acc env=aQr target ifs iter.pos (emitOf elt acc env) (.compLoop (.ListComp elt [⟨target,iter,ifs,0⟩] scope pos) 0 it acc env) it env:=by
 rw[compTurn_list];refine congrArg _ (funext λ_=>congrArg _ (funext λr=>?_));cases r with
 |none=>rfl
 |some v =>
  refine congrArg _ (funext λ_=>congrArg _ (funext λ_=>congrArg _ (funext λok=>?_)));cases ok <;> rfl
theorem bJc(elt target iter t2 i2:Expr)(ifs ifs2:List Expr)(scope:Scope)(pos:Pos)(it acc:ab)(env:Env) :
  eA (.ListComp elt [⟨target,iter,ifs,0⟩,⟨t2,i2,ifs2,0⟩] scope pos) 0 it acc env=aQr target ifs iter.pos (innerOf (.ListComp elt [⟨target,iter,ifs,0⟩,⟨t2,i2,ifs2,0⟩] scope pos) i2 acc env) (.compLoop (.ListComp elt [⟨target,iter,ifs,0⟩,⟨t2,i2,ifs2,0⟩] scope pos) 0 it acc env) it env:=by
 unfold aQr aXr innerOf;refine bind_congr λ_=>bind_congr λr=>?_;cases r with
 |none=>rfl
 |some v =>
  refine bind_congr λ_=>bind_congr λ_=>bind_congr λok=>?_;cases ok with
  |false=>rfl
  |true =>
   simp only[j6,iX]
   rfl
theorem bJd(elt target iter t2 i2:Expr)(ifs ifs2:List Expr)(scope:Scope)(pos:Pos)(it acc:ab)(env:Env) :
  eA (.ListComp elt [⟨target,iter,ifs,0⟩,⟨t2,i2,ifs2,0⟩] scope pos) 1 it acc env=aQr t2 ifs2 i2.pos (emitOf elt acc env) (.compLoop (.ListComp elt [⟨target,iter,ifs,0⟩,⟨t2,i2,ifs2,0⟩] scope pos) 1 it acc env) it env:=by
 refine bind_congr λ_=>bind_congr λr=>?_;cases r with
 |none=>rfl
 |some v =>
  refine bind_congr λ_=>bind_congr λ_=>bind_congr λok=>?_;cases ok <;> rfl
abbrev TB:=St->Hp->(Hp->Prop)->Prop
def PB(X:Cx)(m:Sem Unit)(t:TB):Prop :=
 ∀(pins:List (Addr×Obj)) (s:ag) (σ:St) (H:Hp) (N:Hp->Prop),Inv X pins σ H s->t σ H N ->
  aE (aF X.prog X.w) X.A m (λ_ s'=>∃σ' H',Inv X pins σ' H' s'/\Wk σ σ'/\N H') (λ_ _=>False) s
def fXf(D:Addr)(te:TE):TB:=fun σ H N=>te σ H λy H4=>∃zs,H4 D=some (.lst zs)/\zs.length<sizeLine/\N (upd H4 D (.lst (zs++[y])))
def cQa(J:It)(σ0:St)(g:TG)(tt:TT)(tb:TB)(Q:Hp->Prop)(H:Hp):Prop :=
 ∃W:Nat->Nat->Hp->Prop,(∃m,W 0 m H)/\∀i m H,W i m H ->
  (J.stop i H/\Q H)\/(J.go i H/\∃ N:Hp->Prop,(∀ H',N H'->∃ m',m' < m/\W (i + 1) m' H') /\
   ∀x H',J.yld i H x H'->g x σ0 H' fun σ2 H2=>Wk σ0 σ2/\tt σ2 H2 λb H3=>if b=true then tb σ2 H3 N else N H3)
def cJz(wi:TI)(g:TG)(tt:TT)(tb:TB):TB:=fun σ H N=>wi σ H λJ H1=>cQa J σ g tt tb N H1
def cZa(is:List (Option Nat))(wi:TI)(g:TG)(tt:TT)(tb:Addr->TB):TE:=fun σ H Q=>wi σ H λJ H1=>∀D,H1 D=none->cQa J (capt is σ) g tt (tb D) (Q (.ref D)) (upd H1 D (.lst []))
theorem Wk.refl(σ:St):Wk σ σ:=⟨rfl,λ_ _ h=>h⟩
theorem Wk.trans(h:Wk a b)(k:Wk b c):Wk a c:=⟨k.1.trans h.1,λj v e=>k.2 j v (h.2 j v e)⟩
theorem cXq(h:σ[i]?=some none):Wk σ (σ.set i (some v)):=by
 refine⟨List.length_set,λj u e=>?_⟩
 by_cases z:j=i
 ·subst z;rw[h] at e;cases e
 ·rw[f8 (cE z)];exact e
section
variable{X:Cx}
theorem aQj{elt:Expr}{te:TE}{D:Addr}(hxe:X.xe=λ_ _=>False)(he:PE X elt te):PB X (emitOf elt (.ref D) X.env) (fXf D te):=by
 intro pins s σ H N I h;have h1:=he pins s σ H _ I h;rw[hxe] at h1;refine aa (thn h1 λy s1 ⟨v,H1,O,z,zs,G,j,n⟩=>aa ?_);have h2:=cJt pins s1 σ H1 (.ref D) [v] (.ref D) [y] (λu U=>u=.non/\N U) O rfl (.cons z .nil) ⟨D,zs,v,rfl,rfl,G,j,rfl,n⟩;rw[hxe] at h2;exact thn h2 λ_ s2 ⟨u,H2,J,_,_,B⟩=>ad ⟨σ,H2,J,Wk.refl σ,B⟩
theorem bX1{e target:Expr}{ifs:List Expr}{at0:Pos}{d:Nat}{acc:ab}{it:Addr}{m:Sem Unit}{g:TG}{tt:TT}{tb:TB}{J:It}{fp:List Addr}{tn:Nat->bb->Prop}{Q:Hp->Prop}{R:Result->ag->Prop}{pins:List (Addr×Obj)}{s:ag}{σ:St}{H:Hp}
  (hcalm:X.calm=true) (hxe:X.xe=λ_ _=>False) (hturn:eA e d (.ref it) acc X.env=aQr target ifs at0 m (.compLoop e d (.ref it) acc X.env) (.ref it) X.env)
  (hfr:(iF e d (.ref it) acc X.env).isFrame=false) (hA:X.A.under (iF e d (.ref it) acc X.env)=X.A)
  (T:Turn X.prog X.w X.K target J fp it tn) (hg:PG X target g) (ht:PTs X ifs tt) (hb:PB X m tb)
  (I:Inv X pins σ H s) (st:tn 0 s.heap) (f:∀b∈fp,FpOk X pins H b) (h:cQa J σ g tt tb Q H)
  (fin:∀H' s',Inv X pins σ H' s'->(∀b∈fp,FpOk X pins H' b)->Q H'->R (.ok .next) s') :
  fx (aF X.prog X.w) X.A (.compLoop e d (.ref it) acc X.env) R s:=by
 obtain⟨W,⟨m0,w0⟩,turn⟩:=h;have j:∀{H':Hp},(∀b∈fp,H' b=none)->∀b∈fp,FpOk X pins H' b:=λhn b hb=>⟨hn b hb,(f b hb).2⟩;refine codeAny_loop rfl (λn s'=>∃i H',Inv X pins σ H' s'/\tn i s'.heap/\(∀b∈fp,H' b=none)/\W i n H') ?_ m0 ⟨0,H,I,st,λb hb=>(f b hb).1,w0⟩;rintro n s3 ⟨i,H3,I3,Y,G,w3⟩;have eden:(aF X.prog X.w).den (.compLoop e d (.ref it) acc X.env)=(eA e d (.ref it) acc X.env).onRaise (λx=>do noteFrame x X.env;theTreesLotGoes x):=by
  show(if (iF e d (.ref it) acc X.env).isFrame=true then _ else _)=_
  rw[hfr];rfl
 rw[eden,hturn,hA];refine wpAny_noted ?_;refine aa (fS ?_);rcases turn i n H3 w3 with⟨stop,qn⟩|⟨go,N,hN,step⟩
 ·refine aa (thn (T.done X rfl rfl rfl hcalm i pins s3 σ H3 _ I3 (j G) Y stop) λr s4 ⟨hr,I4⟩=>?_);subst hr;exact ad (fin H3 s4 I4 (j G) qn)
 ·refine aa (thn (T.item X rfl rfl rfl hcalm i pins s3 σ H3 _ I3 (j G) Y go) λr s4 ⟨u,hr,h4⟩=>?_);subst hr;refine aa (thn h4 λ_ s5 ⟨x,H5,I5,r5,y5,D,fr5⟩=>?_);have I5':=I5.pinned (j fr5) (T.obj _ _ D);have q5:=hg _ s5 σ H5 x u _ I5' r5 (step x H5 y5);rw[hxe] at q5;refine aa (dw q5 (λ_ s6 ⟨σ6,H6,I6,U,q6⟩=>?_) λ_ _ z=>z.elim);have q7:=ht _ s6 σ6 H6 _ I6 q6;rw[hxe] at q7;refine aa (dw q7 (λok s7 ⟨H7,I7,q7⟩=>?_) λ_ _ z=>z.elim);have B:∀{σ8:St}{O:Hp}{Z:ag},Inv X (pins++bJ7 fp s5.heap) σ8 O Z->Wk σ σ8->N O->∃m,m<n/\∃i H',Inv X pins σ H' Z/\tn i Z.heap/\(∀b∈fp,H' b=none)/\W i m H':=λ{σ8 O Z} I8 wk n8=>by
   obtain⟨m',hm,w8⟩:=hN O n8;refine⟨m',hm,i+1,O,I8.unpinned.weak wk.1.symm wk.2,T.keep _ _ _ D λb hb o e=>(I8.pin (b,o) (bz _ (bz _ (aXd hb e)))).1,λb hb=>?_,w8⟩;obtain⟨o,e,_⟩:=T.obj _ _ D b hb;exact(I8.pin (b,o) (bz _ (bz _ (aXd hb e)))).2.1
  cases ok with
  |false=>exact ad ⟨rfl,B I7 U q7⟩
  |true =>
   refine aa (dw (hb _ s7 σ6 H7 N I7 q7) (λ_ Z ⟨σ8,O,I8,wk8,n8⟩=>?_) λ_ _ z=>z.elim);exact ad ⟨rfl,B I8 (U.trans wk8) n8⟩
end
section
variable{X:Cx}
theorem dQ0(hc:(clausesOf e)[1]?=some ⟨target,iter,ifs,0⟩)(hfr:(hJ e 1 it acc env).isFrame=false)(hA:A.under (hJ e 1 it acc env)=A)
  (h0:fx (aF prog w) A (.compLoop e 1 it acc env) R s)
  (h:aE (aF prog w) A (iu it) (λit' s'=>fx (aF prog w) A (.compLoop e 1 it' acc env) R s') (notedBy (aF prog w) A env λx s'=>R (.error x) s') s) :
  fx (aF prog w) A (.compStart e 1 it acc env) R s:=by
 refine gN ?_;have j:(aF prog w).den (.compStart e 1 it acc env)=(compStart e 1 it acc env).onRaise (λx=>do noteFrame x env;gk theWindowsPlace):=by
  show(if (hJ e 1 it acc env).isFrame=true then _ else _)=_
  rw[hfr];rfl
 rw[j,hA];refine wpAny_notedAt ?_;unfold compStart;rw[hc];simp only[Option.elim,bne_self_eq_false,aM,if_false];refine aa (dF (wpAny_ite ?_))
 split
 ·first
   |exact aa (ad (ad (jM rfl h0)))
   |exact ad (jM rfl h0)
 ·refine aa (dA ?_);refine aa (fS (aa (dw h (λit' s' h'=>ad (jM rfl h')) λ_ _ x=>x)))
theorem bX2{e t2 i2:Expr}{ifs2:List Expr}{acc:ab}{m:ab->Sem Unit}{wi:TI}{g:TG}{tt:TT}{tb:TB}(hcalm:X.calm=true)(hxe:X.xe=λ_ _=>False)(hc:(clausesOf e)[1]?=some ⟨t2,i2,ifs2,0⟩)
  (hturn:∀it,eA e 1 (.ref it) acc X.env=aQr t2 ifs2 i2.pos (m acc) (.compLoop e 1 (.ref it) acc X.env) (.ref it) X.env)
  (hi:PI X t2 i2 wi) (hg:PG X t2 g) (ht:PTs X ifs2 tt) (hb:PB X (m acc) tb)
  (hs:∀x,cy i2 X.env x=pure x) (hfr:∀it,(hJ e 1 it acc X.env).isFrame=false) (hfr2:∀it,(iF e 1 it acc X.env).isFrame=false)
  (hA:∀it,X.A.under (hJ e 1 it acc X.env)=X.A) (hA2:∀it,X.A.under (iF e 1 it acc X.env)=X.A) :
  PB X (innerOf e i2 acc X.env) (cJz wi g tt tb):=by
 intro pins s σ H N I h;have h1:=hi pins s σ H _ I h;rw[hxe] at h1;refine aa (thn h1 λv s1 B=>aa (fS (aa (ju (hs v) (aa (bS (thn B λD s2 z=>?_)))))));obtain⟨it,fp,U,J,H2,rfl,G,T,j,f2,z⟩:=z;refine aa (wpAny_runOwn ?_);have loop:fx (aF X.prog X.w) X.A (.compLoop e 1 (.ref it) acc X.env) (λr s'=>match r with
   |.ok f=>aE (aF X.prog X.w) X.A (pure ()) (λ_ s'=>∃σ' H',Inv X pins σ' H' s'/\Wk σ σ'/\N H') (λ_ _=>False) s'
   |.error x=>cameBackBy (aF X.prog X.w) X.A X.env (λ_ _=>False) x s') s2 :=
  bX1 hcalm hxe (hturn it) (hfr2 _) (hA2 _) T hg ht hb G j f2 z λH' s' O _ n=>ad ⟨σ,H',O,Wk.refl σ,n⟩
 exact dQ0 hc (hfr _) (hA _) loop (T.self _ 0 _ _ _ j loop)
end
theorem aJh(env:Env):∀(names:List (Str×fP)) (acc:List (Str×Addr)),(∀x,(x,ba)∈names->∃c,env.cells.lookup x=some c) ->
  ∃cl,(forIn names acc λ(y:Str×fP) cs=>(if (y.2==ba)=true then do let a <- cellOf env y.1;pure (bD ((y.1,a)::cs)) else pure (bD cs)))=pure cl /\
   (∀x c,cl.lookup x=some c->(x,ba)∈names\/acc.lookup x=some c)
 |[],acc,_=>⟨acc,by rfl,λ_ _ h=>.inr h⟩
 |(n,k)::rest,acc,B=>by
  by_cases hk:(k==ba)=true
  ·have D:k=ba:=by cases k <;> first|rfl|cases hk
   subst D;obtain⟨c,G⟩:=B n ai;obtain⟨cl,e,h1⟩:=aJh env rest ((n,c)::acc) (λx j=>B x (ak _ j));refine⟨cl,?_,λx d j=>?_⟩
   ·rw[dW];have J:cellOf env n=pure c:=by unfold cellOf;rw[G]
    simp only[hk,if_true,J,iX];exact e
   ·rcases h1 x d j with z|z
    ·exact .inl (ak _ z)
    ·simp only[da] at z;cases hxn:x==n with
     |true=>rw[iW hxn];exact .inl ai
     |false=>rw[hxn] at z;exact .inr z
  ·obtain⟨cl,e,h1⟩:=aJh env rest acc (λx j=>B x (ak _ j));refine⟨cl,?_,λx d j=>?_⟩
   ·rw[dW];simp only[hk,if_false,iX,aM];exact e
   ·rcases h1 x d j with z|z
    ·exact .inl (ak _ z)
    ·exact .inr z
theorem aXi(hn:∀x,(x,ba)∈scope.names->∃c,env.cells.lookup x=some c) :
  ∃cl,i7 scope env=pure cl/\(∀x c,cl.lookup x=some c->env.cells.lookup x=some c)/\(∀x,(x,ba)∈scope.names->(cl.lookup x).isSome=true)/\∀x c,cl.lookup x=some c->(x,ba)∈scope.names:=by
 obtain⟨cl,e,h1,h2⟩:=aJf env scope.names [] hn (λx c h=>by cases h)
 obtain⟨cl',G,B⟩:=aJh env scope.names [] hn;have D:cl=cl':=by
  have:=e.symm.trans G
  injection this
 subst D;refine⟨cl,?_,h1,λx j=>h2 x (.inl j),λx c j=>(B x c j).elim id λz=>by cases z⟩
 have q:i7 scope env=(forIn scope.names ([]) λy cs=>(if (y.2==ba)=true then do let a <- cellOf env y.1;pure (bD ((y.1,a)::cs)) else pure (bD cs))):=bind_pure _
 rw[q,e]
def ocl(oc:Option Str)(c:Addr)(cl:List (Str×Addr)):List (Str×Addr):=match oc with
 |none=>cl
 |some x=>(x,c)::cl
def ohp(oc:Option Str)(h:bb):bb:=match oc with
 |none=>h
 |some _=>h.push {cls:=.type "cell",data:=.cell none}
theorem bQe(h:(ocl oc c cl).lookup x=some d):(oc=some x/\d=c)\/cl.lookup x=some d:=by
 cases oc with
 |none=>exact .inr h
 |some z =>
  unfold ocl at h;simp only[da] at h;cases hx:x==z with
  |true=>rw[hx] at h;cases h;rw[iW hx];exact .inl ⟨rfl,rfl⟩
  |false=>rw[hx] at h;exact .inr h
theorem cZb(h:(cl.lookup x).isSome=true):∃d,(ocl oc c cl).lookup x=some d:=by
 cases oc with
 |none=>exact bM.mp h
 |some z =>
  unfold ocl;simp only[da];cases hx:x==z with
  |true=>exact⟨_,rfl⟩
  |false=>exact bM.mp h
theorem eXk:(ocl (some x) c cl).lookup x=some c:=by unfold ocl;simp
theorem bQ3(e:h.get? b=some o):(ohp oc h).get? b=some o:=by
 cases oc with
 |none=>exact e
 |some _=>exact ae _ e
def aQ9(X:Cx)(N':List Str)(scope:Scope)(cl:List (Str×Addr))(C:Addr)(fp:List Addr)(s:ag)(H:Hp)(oc:Option Str):Cx :=
 {X with N:=N',s₀:=s,H₀:=H,env:=hU scope cl C X.env,outer:=X.stack,ex:=fp,fn:=λx=>decide (oc=some x),pn:=[],xe:=λ_ _=>False}
theorem dQ1
  (h:Q {scope:=scope,locals:=s.heap.objs.size,globals:=env.globals,cells:=eR (s.heap.objs.size+1) scope.names cl,qual:=env.qual,func:=none,code:=env.code,frame:=env.frame,builtins:=env.builtins} {s with heap:=gp (s.heap.push {cls:=.type "dict",data:=.dict #[]}) scope.names}) :
  aE M A (newFunctionEnv scope env.globals cl [] env.qual none .none (some env)) Q E s:=by
 unfold newFunctionEnv;simp only[i8,if_true];refine aa (wpAny_alloc ?_);refine aa (wpAny_layCells _ (λname kind cells=>by cases hkc:kind==iE <;> simp[hkc]) _ _ _ _ ?_)
 rw[cB ..]
 exact aa (ad (ad h))
section
variable{X:Cx}{pins:List (Addr×Obj)}{σ:St}{H H':Hp}{s s2:ag}
theorem bZj{fp:List Addr}(I:Inv X pins σ H s)(hf:∀b∈fp,FpOk X pins H b)(hfl:∀b∈fp,b<s.heap.objs.size)(hkind:scope.kind=.function)
  (c1:∀x c,cl.lookup x=some c->X.env.cells.lookup x=some c) (c2:∀x,(x,ba)∈scope.names->(cl.lookup x).isSome=true) (hcell:∀y∈scope.names,y.2=.cell->oc=some y.1) (hun:∀x,oc=some x->cl.lookup x=none) :
  (aQ9 X N' scope (ocl oc (s.heap.objs.size+1) cl) s.heap.objs.size fp s H oc).Ok where
 mod:=I.ok.mod
 kind:=hkind
 glob:=I.ok.glob
 blt:=I.ok.blt
 above:=Nat.le_refl _
 inj:=λx y c h1 h2=>by
  have old:∀z,cl.lookup z=some (s.heap.objs.size+1)->False:=λz e=>by
   obtain⟨v,q⟩:=I.cell z _ (c1 z _ e);exact absurd (q.lt) (Nat.not_lt.mpr (Nat.le_succ _))
  rcases bQe h1 with⟨G,rfl⟩|G <;> rcases bQe h2 with⟨D,e⟩|D
  ·rw[G] at D;exact a7 D
  ·exact(old y D).elim
  ·subst e;exact(old x G).elim
  ·exact I.ok.inj x y c (c1 x c G) (c1 y c D)
 has:=λx J=>by
  have j:=aJg (sc:=scope) J;rcases j with j|j
  ·have e:=hcell _ (bQd j) rfl;subst e;exact⟨_,eXk⟩
  ·exact cZb (c2 x (bQd j))
 cab:=λx c h O=>by
  have h':=of_decide_eq_true h;rcases bQe O with⟨_,rfl⟩|e
  ·exact Nat.le_succ _
  ·rw[hun x h'] at e;cases e
 hd:=I.ok.hd
 frames:=I.ok.frames
 gd:=I.ok.gd
 stk:=.inl rfl
 exf:=λb B=>⟨Nat.ne_of_lt (hfl b B),λx c e=>by
  rcases bQe e with⟨_,rfl⟩|e
  ·intro z;exact absurd (z▸hfl b B) (Nat.not_lt.mpr (Nat.le_succ _))
  ·exact(hf b B).2.2.2.2.1 x c (c1 x c e)⟩
 bs:=I.bs
 bsz:=Nat.le_trans I.ok.bsz I.sz
 noex:=λb o e B=>by
  rcases(hf b B).2.2.2.1 with z|z
  ·exact I.ok.noex b o e z
  ·have q:=I.ok.bs b o e;exact absurd (Nat.lt_of_lt_of_le (aC q.1) z) (Nat.lt_irrefl _)
 exfs:=λb B z=>by
  rcases av.mp (I.stkSub b z) with e|e
  ·exact(hf b B).2.1 e
  ·exact(hf b B).2.2.1 e
 funs:=I.stack
 frf:=I.stkFree
theorem bQf(I:Inv X pins σ H s)(ok:(aQ9 X N' scope (ocl oc (s.heap.objs.size+1) cl) s.heap.objs.size fp s H oc).Ok)(hN:X.N.Nodup)
  (c1:∀x c,cl.lookup x=some c->X.env.cells.lookup x=some c) (c2:∀x,(x,ba)∈scope.names->(cl.lookup x).isSome=true) (hu:∀x,(x,ba)∈scope.names->scope.names.lookup x=some .free) (cp:Cap X.N scope N' is)
  (hV:∀x,(x,ba)∈scope.names->Vis X.env.scope x/\X.env.scope.names.lookup x≠some .local) (hun:∀x,oc=some x->cl.lookup x=none) :
  Inv (aQ9 X N' scope (ocl oc (s.heap.objs.size+1) cl) s.heap.objs.size fp s H oc) [] (capt is σ) H {s with heap:=ohp oc (s.heap.push {cls:=.type "dict",data:=.dict #[]})}:=by
 have kp:∀b o,s.heap.get? b=some o->(ohp oc (s.heap.push {cls:=.type "dict",data:=.dict #[]})).get? b=some o:=λb o e=>bQ3 (ae _ e);exact {
 ok:=ok
 os:=rfl
 bare:=I.bare
 base:=Un.kept kp
 loc:=by
  refine⟨_,(bb.Ns.new s.heap (.type "dict")).keeps λb o e=>bQ3 e,λj x v e1 e2 e3=>?_⟩;have Z:=e1;unfold capt at e2;rw[aQ] at e2;cases hi:is[j]? with
  |none=>rw[hi] at e2;cases e2
  |some o =>
   rw[hi] at e2;cases o with
   |none=>cases e2
   |some i =>
    obtain⟨hx,B⟩:=cp.get Z hi;have e2':(σ[i]?).join=some v:=a7 e2;have e4:σ[i]?=some (some v):=by
     cases q:σ[i]? with
     |none=>rw[q] at e2';cases e2'
     |some z=>rw[q] at e2';cases z with
      |none=>cases e2'
      |some z=>cases e2';rfl
    obtain⟨m,hn,hl⟩:=I.loc;obtain⟨G,Y⟩:=hV x B;obtain⟨u,r,l⟩:=hl i x v hx e4 G;refine⟨u,r,.inr ⟨aX4 (sc:=scope) (.inr (hu x B)),?_⟩⟩;rcases l with⟨k,_⟩|⟨k,c,e,z⟩
    ·exact absurd k Y
    ·obtain⟨J,e'⟩:=cZb (c2 x B);have ee:J=c:=by
      rcases bQe e' with⟨O,_⟩|O
      ·have:=c2 x B;rw[hun x O] at this;cases this
      ·have:=c1 x J O;rw[e] at this;exact(a7 this).symm
     subst ee;obtain⟨D,U,hd⟩:=z;exact⟨J,e',D,kp J D U,hd⟩
 cell:=λx c e=>by
  rcases bQe (e) with⟨z,rfl⟩|e
  ·subst z;refine⟨none,{cls:=.type "cell",data:=.cell none},?_,rfl⟩;rw[<- cB s.heap {cls:=.type "dict",data:=.dict #[]}];exact aq _ rfl
  ·obtain⟨v,o,ho,hd⟩:=I.cell x c (c1 x c e);exact⟨v,o,kp c o ho,hd⟩
 free:=I.hok.fresh (Nat.le_refl _)
 freeC:=λx c e=>by
  rcases bQe (e) with⟨z,rfl⟩|e
  ·exact I.hok.fresh (Nat.le_succ _)
  ·exact I.freeC x c (c1 x c e)
 pin:=λp hp=>absurd (show p∈([]) from hp) (by simp)
 hok:=I.hok.kept kp
 len:=by
  show(capt is σ).length=N'.length;unfold capt;rw[ah,cp.length]}
def FrC(X:Cx)(pins:List (Addr×Obj))(C:Addr)(H:Hp):Prop:=H C=none/\C≠X.env.locals/\X.s₀.heap.objs.size<=C/\(∀x c,X.env.cells.lookup x=some c->c≠C)/\∀p∈X.pn++pins,p.1≠C
theorem FrC.gone(f:FrC X pins C H)(I:Inv X pins σ H s)(sb:dj C s.heap h'):Inv X pins σ H {s with heap:=h'} :=
 I.turned (λb o j e=>(sb.2 b j).trans e) f.1 f.2.1 (.inr f.2.2.1) f.2.2.2.1 f.2.2.2.2
theorem comp_gen{m:ab->Env->Sem Unit}(hcalm:X.calm=true)(hN:X.N.Nodup)
  (hturn:∀it acc env,eA (.ListComp elt (⟨target,iter,ifs,0⟩::gs) scope pos) 0 it acc env=aQr target ifs iter.pos (m acc env) (.compLoop (.ListComp elt (⟨target,iter,ifs,0⟩::gs) scope pos) 0 it acc env) it env)
  (cp:Cap X.N scope N' is) (hi:PI X target iter wi)
  (hg:∀cl C fp s H,PG (aQ9 X N' scope cl C fp s H oc) target g) (ht:∀cl C fp s H,PTs (aQ9 X N' scope cl C fp s H oc) ifs tt) (hb:∀cl C fp s H D,PB (aQ9 X N' scope cl C fp s H oc) (m (.ref D) (hU scope cl C X.env)) (tb D))
  (hcf:∀n acc,eR n scope.names acc=ocl oc n acc) (hpc:∀h,gp h scope.names=ohp oc h)
  (hkind:scope.kind=.function) (hcell:∀y∈scope.names,y.2=.cell->oc=some y.1)
  (hu:∀y∈scope.names,scope.names.lookup y.1=some y.2) (hoc:∀x,oc=some x->scope.names.lookup x=some .cell)
  (hVb:okV scope.names X.env.scope.names=true)
  (hs:∀x,cy iter X.env x=pure x)
  {use:Option (ab->Sem Unit)}{Q:VK}{Qv:ab->ag->Prop}(I:Inv X pins σ H s) (h:cZa is wi g tt tb σ H Q)
  (fin:∀D C H5 s6,Inv X pins σ H5 s6->(∃m,s6.heap.Ns C m)->FrC X pins C H5->Q (.ref D) H5->compPost (aF X.prog X.w) X.A X.xe use Qv (.ref D) C (.ok .next) s6) :
  aE (aF X.prog X.w) X.A (comprehension (.ListComp elt (⟨target,iter,ifs,0⟩::gs) scope pos) scope X.env (firstIterPos (⟨target,iter,ifs,0⟩::gs) pos) (newList []) (firstAsync (⟨target,iter,ifs,0⟩::gs)) (firstIter (⟨target,iter,ifs,0⟩::gs) X.env) use) Qv X.xe s:=by
 have hV:=eQo hVb;have hV':=λx j=>hV (x,.free) j rfl;have hu':=λx j=>hu (x,.free) j;have B:∀x∈scope.names,x.2=.local->scope.names.lookup x.1=some .local:=λx j hl=>by rw[hu x j,hl]
 obtain⟨cl,O,c1,c2,c3⟩:=aXi λx j=>I.ok.has x (by
  obtain⟨v,n⟩:=hV' x j;rcases v with v|v|v
  ·exact absurd v n
  ·exact .inl v
  ·exact .inr v)
 have hun:∀x,oc=some x->cl.lookup x=none:=λx j=>by
  cases e:cl.lookup x with
  |none=>rfl
  |some c =>
   have:=hu' x (c3 x c e)
   rw[hoc x j] at this;cases this
 refine wpAny_comprehension_free rfl hs O hkind B (thn (hi pins s σ H _ I h) λv s1 h1=>thn h1 λitv s2 h2=>?_);obtain⟨it,fp,tn,J,H2,rfl,I2,T,st2,f2,q2⟩:=h2;refine bi ?_;have hD:=I2.hok.fresh (Nat.le_refl _);have fpl:∀b∈fp,b<s2.heap.objs.size:=λb hb=>by obtain⟨o,e,_⟩:=T.obj _ _ st2 b hb;exact aC e
 have U:Inv X pins σ (upd H2 s2.heap.objs.size (.lst [])) {s2 with heap:=s2.heap.push {cls:=.type "list",dict:=none,data:=.seq ([]).toArray}} :=
  I2.laid (λb u e=>ae _ e) (Nat.le_refl _) ⟨Nat.zero_le _,[],0,.nil,aq _ rfl⟩
 have st3:tn 0 (s2.heap.push {cls:=.type "list",dict:=none,data:=.seq ([]).toArray}):=T.keep _ _ _ st2 λb hb o e=>ae _ e;have Y:∀b∈fp,FpOk X pins (upd H2 s2.heap.objs.size (.lst [])) b:=λb hb=>⟨by rw[upd_ne (Nat.ne_of_lt (fpl b hb))];exact(f2 b hb).1,(f2 b hb).2⟩
 have G:∀b∈fp,b<(s2.heap.push {cls:=.type "list",dict:=none,data:=.seq ([]).toArray}).objs.size:=λb hb=>by rw[cB];exact Nat.lt_succ_of_lt (fpl b hb)
 have q3:=q2 _ hD;generalize hDe:s2.heap.objs.size=D at *
 generalize hs3:({s2 with heap:=s2.heap.push {cls:=.type "list",dict:=none,data:=.seq ([]).toArray}})=s3 at *
 have hsh:s3.heap=s2.heap.push {cls:=.type "list",dict:=none,data:=.seq ([]).toArray}:=by rw[<- hs3]
 rw[<- hsh] at st3 G;have ok:=bZj (N':=N') U Y G hkind c1 c2 hcell hun;have I4:=bQf U ok hN c1 c2 hu' cp hV' hun;refine dQ1 ?_;rw[hcf,hpc];have kp:∀b o,s3.heap.get? b=some o->(ohp oc (s3.heap.push {cls:=.type "dict",data:=.dict #[]})).get? b=some o:=λb o e=>bQ3 (ae _ e);have st4:=T.keep _ _ _ st3 λb _ o e=>kp b o e;have f4:∀b∈fp,FpOk (aQ9 X N' scope (ocl oc (s3.heap.objs.size+1) cl) s3.heap.objs.size fp s3 (upd H2 D (.lst [])) oc) [] (upd H2 D (.lst [])) b:=λb hb =>
  ⟨(Y b hb).1,(ok.exf b hb).1,ok.exfs b hb,.inl hb,(ok.exf b hb).2,λp hp=>absurd (show p∈([]) from hp) (by simp)⟩
 have loop:=bX1 (X:=aQ9 X N' scope (ocl oc (s3.heap.objs.size+1) cl) s3.heap.objs.size fp s3 (upd H2 D (.lst [])) oc)
  hcalm rfl (hturn _ _ _) rfl rfl T (hg _ _ _ _ _) (ht _ _ _ _ _) (hb _ _ _ _ _ D) I4 st4 f4 q3 (by
   intro H5 s6 Z _ qn;obtain⟨m6,n6,_⟩:=id Z.loc;have un:=Z.base;have hok':=Z.hok;refine fin D s3.heap.objs.size H5 s6 (U.call' Z.os un hok' Z.bare λb hb=>⟨(Y b hb).2.2.2.1,(Y b hb).2.1,(Y b hb).2.2.2.2.1,(Y b hb).2.2.2.2.2⟩) ⟨m6,n6⟩ ⟨Z.free,Nat.ne_of_gt U.lt,U.sz,λx c e z=>?_,λp hp z=>?_⟩ qn
   ·obtain⟨v,q⟩:=U.cell x c e;exact absurd q.lt (by rw[z];exact Nat.lt_irrefl _)
   ·exact absurd (aC (U.pin p hp).1) (by rw[z];exact Nat.lt_irrefl _))
 exact codeAny_compStart_list loop (T.self _ 0 _ _ _ st4 loop)
theorem dJ5{m:ab->Env->Sem Unit}(hcalm:X.calm=true)(hN:X.N.Nodup)
  (hturn:∀it acc env,eA (.ListComp elt (⟨target,iter,ifs,0⟩::gs) scope pos) 0 it acc env=aQr target ifs iter.pos (m acc env) (.compLoop (.ListComp elt (⟨target,iter,ifs,0⟩::gs) scope pos) 0 it acc env) it env)
  (cp:Cap X.N scope N' is) (hi:PI X target iter wi)
  (hg:∀cl C fp s H,PG (aQ9 X N' scope cl C fp s H oc) target g) (ht:∀cl C fp s H,PTs (aQ9 X N' scope cl C fp s H oc) ifs tt) (hb:∀cl C fp s H D,PB (aQ9 X N' scope cl C fp s H oc) (m (.ref D) (hU scope cl C X.env)) (tb D))
  (hcf:∀n acc,eR n scope.names acc=ocl oc n acc:=by intro _ _;rfl) (hpc:∀h,gp h scope.names=ohp oc h:=by intro _;rfl)
  (hkind:scope.kind=.function:=by rfl) (hcell:∀y∈scope.names,y.2=.cell->oc=some y.1:=by decide +kernel)
  (hu:∀y∈scope.names,scope.names.lookup y.1=some y.2:=by decide +kernel) (hoc:∀x,oc=some x->scope.names.lookup x=some .cell:=by intro x h;cases h <;> rfl)
  (hVb:okV scope.names X.env.scope.names=true:=by first|rfl|kernel_rfl)
  (hs:∀x,cy iter X.env x=pure x:=by intro _;rfl) :
  PE X (.ListComp elt (⟨target,iter,ifs,0⟩::gs) scope pos) (cZa is wi g tt tb):=by
 intro pins s σ H Q I h;rw[eval_ListComp];refine comp_gen hcalm hN hturn cp hi hg ht hb hcf hpc hkind hcell hu hoc hVb hs I h λD C J O G ⟨m,n⟩ B z=>?_;exact⟨m,n,λh' j=>⟨.ref D,J,B.gone G j,rfl,z⟩⟩
theorem eXl{pos' spos:Pos}(hix:X.N[i]?=some x)(hx:Loc X.env.scope x){elt target iter:Expr}{ifs:List Expr}{gs:List ft}{scope:Scope}{pos:Pos}{N':List Str}{is:List (Option Nat)}{wi:TI}{g:TG}{tt:TT}{tb:Addr->TB}{oc:Option Str}{m:ab->Env->Sem Unit}(hcalm:X.calm=true)(hN:X.N.Nodup)
  (hturn:∀it acc env,eA (.ListComp elt (⟨target,iter,ifs,0⟩::gs) scope pos) 0 it acc env=aQr target ifs iter.pos (m acc env) (.compLoop (.ListComp elt (⟨target,iter,ifs,0⟩::gs) scope pos) 0 it acc env) it env)
  (cp:Cap X.N scope N' is) (hi:PI X target iter wi)
  (hg:∀cl C fp s H,PG (aQ9 X N' scope cl C fp s H oc) target g) (ht:∀cl C fp s H,PTs (aQ9 X N' scope cl C fp s H oc) ifs tt) (hb:∀cl C fp s H D,PB (aQ9 X N' scope cl C fp s H oc) (m (.ref D) (hU scope cl C X.env)) (tb D))
  (hcf:∀n acc,eR n scope.names acc=ocl oc n acc:=by intro _ _;rfl) (hpc:∀h,gp h scope.names=ohp oc h:=by intro _;rfl)
  (hkind:scope.kind=.function:=by rfl) (hcell:∀y∈scope.names,y.2=.cell->oc=some y.1:=by decide +kernel)
  (hu:∀y∈scope.names,scope.names.lookup y.1=some y.2:=by decide +kernel) (hoc:∀x,oc=some x->scope.names.lookup x=some .cell:=by intro x h;cases h <;> rfl)
  (hVb:okV scope.names X.env.scope.names=true:=by first|rfl|kernel_rfl)
  (hs:∀x,cy iter X.env x=pure x:=by intro _;rfl)
  (hsw:iq (.ListComp elt (⟨target,iter,ifs,0⟩::gs) scope pos) (some (.Name x pos')) spos.line X.env=pure true:=by first|rfl|kernel_rfl) (hf:X.fn x=true\/X.env.scope.names.lookup x=some .local:=by first|exact .inl rfl|exact .inr rfl|assumption) :
  PS X (.Assign [.Name x pos'] (.ListComp elt (⟨target,iter,ifs,0⟩::gs) scope pos) spos) (tAsg (cZa is wi g tt tb) (bZ6 i)):=by
 intro pins s σ H D I h;rw[exec_Assign_Name_used _ _ _ _ hsw];refine aa (fS (aa ?_));refine aa (comp_gen hcalm hN hturn cp hi hg ht hb hcf hpc hkind hcell hu hoc hVb hs I h λE C H5 s6 Z ⟨m,n⟩ G O=>?_);refine wpAny_assign_Name (bJ6 Z hN hix hx (show RelV (.ref E) (.ref E) from rfl) (λs7 Y ⟨a,J,U⟩=>?_) hf)
 have B:C≠a:=by
  rintro rfl;rcases U with z|z
  ·exact G.2.1 z
  ·exact G.2.2.2.1 x C z rfl
 refine⟨m,n.sameBut J B,λh' j=>ad (ad ?_)⟩;exact⟨_,H5,G.gone Y j,O⟩
end
end L2
set_option maxHeartbeats 4000000
namespace L2
open PySem PySem.Spec PyProof.Rows
abbrev Dn(α:Type):=Hp->V->α->Prop
abbrev Fg:=ar
def dS:Dn Str:=λ_ v x=>v=.str x
def dB:Dn Bool:=λ_ v b=>v=.bl b
def dT{α:Type}(K:Fg)(R:Dn α):Dn (List α):=λH v ds=>∃a xs,v=.ref a/\SqT K H a xs/\aZ (R H) xs ds
def dL{α:Type}(K:Fg)(R:Dn α):Dn (List α):=λH v ds=>∃a xs,v=.ref a/\SqL K H a xs/\aZ (R H) xs ds
def SameT(H H':Hp):Prop:=∀a xs,Rd H a (.tup xs)->Rd H' a (.tup xs)
theorem Same.t{H H':Hp}(h:Same H H'):SameT H H':=λa xs r=>by
 rcases r with r|⟨o,r⟩
 ·exact .inl (h _ _ r)
 ·exact .inr ⟨o,h _ _ r⟩
theorem aQs(h:H p=none):Same H (upd H p o):=λb o' e=>by
 rw[upd_ne (by rintro rfl;rw[h] at e;cases e)];exact e
theorem SqT.stay{K:Fg}(h:SqT K H a xs)(s:SameT H H'):SqT K H' a xs:=h.elim (λr=>.inl (s a xs r)) .inr
class Im {α:Type}(R:Dn α):Prop where
 im:∀{H H' v d},SameT H H'->R H v d->R H' v d
class Mo {α:Type}(R:Dn α):Prop where
 mo:∀{H H' v d},Same H H'->R H v d->R H' v d
instance (priority:=low) {α:Type}{R:Dn α}[Im R]:Mo R:=⟨λs r=>Im.im s.t r⟩
theorem Paired.imp{F G:α->β->Prop}(h:∀a b,F a b->G a b):∀{l:List α}{m:List β},aZ F l m->aZ G l m
 |_,_,.nil=>.nil
 |_,_,.cons p q=>.cons (h _ _ p) (Paired.imp h q)
instance:Im dS:=⟨λ_ h=>h⟩
instance {α:Type}{K:Fg}{R:Dn α}[Im R]:Im (dT K R):=⟨λs ⟨a,xs,e,q,p⟩=>⟨a,xs,e,q.stay s,Paired.imp (λ_ _ r=>Im.im s r) p⟩⟩
theorem beq_dec{α:Type}[DecidableEq α][BEq α][LawfulBEq α](a b:α):(a==b)=decide (a=b):=by
 by_cases h:a=b
 ·subst h;simp
 ·simp[h]
theorem Paired.get'{F:α->β->Prop}:∀{l:List α}{m:List β}{i:Nat}{a:α},aZ F l m->l[i]?=some a->∃b,m[i]?=some b/\F a b
 |_,_,_,_,.nil,h=>by simp at h
 |_,_,0,_,.cons p _,h=>by simp at h;subst h;exact⟨_,rfl,p⟩
 |_,_,i+1,a,.cons _ q,h=>by
  obtain⟨b,e,f⟩:=Paired.get' q (by simpa using h)
  exact⟨b,by simpa using e,f⟩
theorem fXg{α:Type}[DecidableEq α]:∀(ds es:List α),((a4 (min ds.length es.length)).all λj=>decide (ds[j]?=es[j]?))=true->ds.length=es.length->ds=es:=λds es h hl=>by
 apply hW;intro i
 by_cases hi:i<ds.length
 ·have:=bI.mp h i (bf.mpr (by lia))
  exact of_decide_eq_true this
 ·rw[cC (by lia),cC (by lia)]
theorem dQ2{α:Type}[DecidableEq α](ds es:List α)(n m:Nat)(hn:n=ds.length)(hm:m=es.length):((a4 (min n m)).all (λj=>decide (ds[j]?=es[j]?))&&(n==m))=decide (ds=es):=by
 subst hn;subst hm
 by_cases h:ds=es
 ·subst h;simp
 ·rw[decide_eq_false h,Bool.and_eq_false_iff]
  by_cases hl:ds.length=es.length
  ·left
   cases q:(a4 (min ds.length es.length)).all λj=>decide (ds[j]?=es[j]?) with
   |false=>rfl
   |true=>exact absurd (fXg ds es q hl) h
  ·right;simpa using hl
variable{α β γ:Type}
end L2
namespace ST
open PySem PySem.SetTable
def step(mask:Nat)(p:Probe):Probe :=
 if p.more>0 then {p with j:=p.j+1,more:=p.more-1} else
 {p with j:=(leap mask p.i p.perturb).1,more:=runEnd mask (leap mask p.i p.perturb).1-(leap mask p.i p.perturb).1,i:=(leap mask p.i p.perturb).1,perturb:=(leap mask p.i p.perturb).2}
theorem bZk(t:a6)(p:Probe):t.advance p=step t.mask p:=by
 unfold a6.advance step
 split <;> rfl
def road(mask:Nat):Nat->Probe->Probe
 |0,p=>p
 |m+1,p=>road mask m (step mask p)
theorem bQg(mask:Nat):∀(m:Nat) (p:Probe),road mask (m+1) p=step mask (road mask m p)
 |0,_=>rfl
 |m+1,p=>bQg mask m (step mask p)
theorem aQu(mask:Nat):∀(a b:Nat) (p:Probe),road mask (a+b) p=road mask b (road mask a p)
 |0,b,p=>by rw[Nat.zero_add];rfl
 |a+1,b,p=>by
  rw[Nat.add_right_comm];exact aQu mask a b _
theorem bZl(mask:Nat)(p:Probe):(step mask p).dummy=p.dummy:=by unfold step;split <;> rfl
theorem bQh(mask i:Nat)(h:i<=mask):i<=runEnd mask i/\runEnd mask i<=mask/\runEnd mask i<=i+9:=by
 unfold runEnd;split <;> lia
structure PV(mask:Nat)(p:Probe):Prop where
 more:p.more<=9
 i:p.i<=mask
 j:p.j+p.more<=mask
 pt:p.perturb<2^64
theorem cQb(mask i pt:Nat):(leap mask i pt).1<=mask:=by
 unfold leap
 have:=Nat.mod_lt (i*5+1+pt/32) (show 0<mask+1 by lia)
 lia
theorem PV.step{mask:Nat}(v:PV mask p):PV mask (ST.step mask p):=by
 unfold ST.step;have h1:=v.more;have h2:=v.i;have B:=v.j;have z:=v.pt
 split
 ·exact⟨by lia,h2,by lia,z⟩
 ·have l:=cQb mask p.i p.perturb;have r:=bQh mask _ l;refine⟨by lia,l,by lia,?_⟩
  exact Nat.lt_of_le_of_lt (Nat.div_le_self _ _) z
theorem PV.road{mask:Nat}:∀(m:Nat) {p:Probe},PV mask p->PV mask (ST.road mask m p)
 |0,_,v=>v
 |m+1,_,v=>PV.road m v.step
theorem eXm(h:Int):bits h<2^64:=by
 unfold bits;have h1:=Int.emod_nonneg h (show(2^64)≠0 by decide)
 have h2:=Int.emod_lt_of_pos h (show(0:Int)<2^64 by decide)
 have:2^64=18446744073709551616:=by decide
 have:2^64=18446744073709551616:=by decide
 lia
def start(mask:Nat)(h:Int):Probe:={j:=bits h%(mask+1),more:=runEnd mask (bits h%(mask+1))-bits h%(mask+1),i:=bits h%(mask+1),perturb:=bits h,dummy:=none}
theorem aJ2(mask:Nat)(h:Int):PV mask (start mask h):=by
 have l:bits h%(mask+1)<=mask:=Nat.le_of_lt_succ (Nat.mod_lt _ (Nat.succ_pos mask));have r:=bQh mask _ l;exact⟨by show _-_<=9;lia,l,by show bits h%(mask+1)+(runEnd mask (bits h%(mask+1))-bits h%(mask+1))<=mask;lia,eXm h⟩
theorem dQ3(mask:Nat):∀(k:Nat) (p:Probe),k<=p.more->road mask k p={p with j:=p.j+k,more:=p.more-k}
 |0,p,_=>rfl
 |k+1,p,h=>by
  show road mask k (step mask p)=_;have e:step mask p={p with j:=p.j+1,more:=p.more-1}:=by unfold step;rw[if_pos (by lia)]
  rw[e,dQ3 mask k _ (by lia)]
  rw[show p.j+1+k=p.j+(k+1) by lia,show p.more-1-k=p.more-(k+1) by lia]
theorem dQ4(mask:Nat)(p:Probe):road mask (p.more+1) p={p with j:=(leap mask p.i p.perturb).1,more:=runEnd mask (leap mask p.i p.perturb).1-(leap mask p.i p.perturb).1,i:=(leap mask p.i p.perturb).1,perturb:=(leap mask p.i p.perturb).2}:=by
 rw[bQg,dQ3 mask p.more p (Nat.le_refl _)];unfold step;rw[if_neg (by lia)]
def aZs(mask:Nat):Nat->Nat×Nat->Nat×Nat
 |0,s=>s
 |l+1,s=>aZs mask l (leap mask s.1 s.2)
theorem aZv(mask:Nat):∀(l:Nat) (s:Nat×Nat),aZs mask (l+1) s=leap mask (aZs mask l s).1 (aZs mask l s).2
 |0,_=>rfl
 |l+1,s=>aZv mask l _
theorem bX3(mask:Nat):∀(l:Nat) (s:Nat×Nat),(aZs mask l s).2=s.2/32^l
 |0,s=>by simp[aZs]
 |l+1,s=>by
  rw[aZv];show(aZs mask l s).2/32=_;rw[bX3 mask l s,Nat.div_div_eq_div_mul,Nat.pow_succ]
theorem far(mask:Nat):∀(l:Nat) (p:Probe),PV mask p->∃m,m<=10*l/\(road mask m p).i=(aZs mask l (p.i,p.perturb)).1/\(road mask m p).perturb=(aZs mask l (p.i,p.perturb)).2/\(0<l->(road mask m p).j=(road mask m p).i)
 |0,p,_=>⟨0,Nat.le_refl _,rfl,rfl,λh=>absurd h (Nat.lt_irrefl _)⟩
 |l+1,p,v=>by
  obtain⟨m,h1,h2,B,D⟩:=far mask l p v;have z:=PV.road m v;refine⟨m+((road mask m p).more+1),?_,?_⟩
  ·have:=z.more;lia
  ·rw[aQu,dQ4,aZv,<- h2,<- B];exact⟨rfl,rfl,λ_=>rfl⟩
def f5(N x:Nat):Nat:=(x*5+1)%N
def f5s(N:Nat):Nat->Nat->Nat
 |0,x=>x
 |a+1,x=>f5s N a (f5 N x)
theorem bX4(N:Nat):∀(a b x:Nat),f5s N (a+b) x=f5s N b (f5s N a x)
 |0,b,x=>by rw[Nat.zero_add];rfl
 |a+1,b,x=>by rw[Nat.add_right_comm];exact bX4 N a b _
def eXn(N:Nat):Nat->Nat->List Nat->List Nat
 |0,_,acc=>acc
 |a+1,x,acc=>eXn N a (f5 N x) (x::acc)
theorem bJe(N:Nat):∀(a x:Nat) (acc:List Nat) (y:Nat),y∈eXn N a x acc->y∈acc\/∃b,b<a/\f5s N b x=y
 |0,_,_,_,h=>.inl h
 |a+1,x,acc,y,h=>by
  rcases bJe N a (f5 N x) (x::acc) y h with h|⟨b,j,e⟩
  ·rcases av.mp h with h|h
   ·exact .inr ⟨0,Nat.succ_pos _,h.symm⟩
   ·exact .inl h
  ·exact .inr ⟨b+1,Nat.succ_lt_succ j,e⟩
def Full(N:Nat):Prop:=f5s N N 0=0/\∀y,y<N->∃b,b<N/\f5s N b 0=y
theorem bX5(h:(f5s N N 0==0&&(a4 N).all λy=>(eXn N N 0 []).contains y)=true):Full N:=by
 simp only[aV,beq_iff_eq,bI,bf] at h;refine⟨h.1,λy j=>?_⟩;have q:=h.2 y j;rcases bJe N N 0 [] y (by simpa using q) with z|z
 ·cases z
 ·exact z
theorem Full.from(F:Full N){x y:Nat}(hx:x<N)(hy:y<N):∃a,a<N/\f5s N a x=y:=by
 obtain⟨b,D,z⟩:=F.2 x hx;obtain⟨c,B,j⟩:=F.2 y hy
 by_cases h:b<=c
 ·refine⟨c-b,by lia,?_⟩
  rw[<- z,<- bX4,show b+(c-b)=c by lia,j]
 ·refine⟨N-b+c,by lia,?_⟩
  rw[<- z,<- bX4,show b+(N-b+c)=N+c by lia,bX4,F.1,j]
theorem gZr:Full 8:=bX5 (by decide +kernel)
theorem fXh:Full 32:=bX5 (by decide +kernel)
theorem eXo:Full 128:=bX5 (by decide +kernel)
theorem eXp:Full 512:=bX5 (by decide +kernel)
def Mask(mask:Nat):Prop:=mask=7\/mask=31\/mask=127\/mask=511
theorem Mask.full{mask:Nat}(h:Mask mask):Full (mask+1):=by
 rcases h with rfl|rfl|rfl|rfl
 ·exact gZr
 ·exact fXh
 ·exact eXo
 ·exact eXp
theorem bX6{mask:Nat}:∀(a:Nat) (s:Nat×Nat),s.2<32->(aZs mask a s).1=f5s (mask+1) a s.1
 |0,_,_=>rfl
 |a+1,s,h=>by
  show(aZs mask a (leap mask s.1 s.2)).1=f5s (mask+1) a (f5 (mask+1) s.1);have e:=Nat.div_eq_of_lt h;have j:(leap mask s.1 s.2).1=f5 (mask+1) s.1:=by
   show(s.1*5+1+s.2/32)%(mask+1)=_;rw[e];rfl
  rw[bX6 a _ (by show s.2/32<32;lia),j]
theorem bQi(mask:Nat):∀(a b:Nat) (s:Nat×Nat),aZs mask (a+b) s=aZs mask b (aZs mask a s)
 |0,b,s=>by rw[Nat.zero_add];rfl
 |a+1,b,s=>by rw[Nat.add_right_comm];exact bQi mask a b _
theorem fXi{mask:Nat}(hm:Mask mask){p:Probe}(v:PV mask p){y:Nat}(hy:y<=mask):∃m,m<10*(mask+15)/\(road mask m p).j=y:=by
 have z:(aZs mask 12 (p.i,p.perturb)).1<mask+1:=by
  rw[aZv mask 11];exact Nat.lt_succ_of_le (cQb _ _ _)
 have B:(aZs mask 12 (p.i,p.perturb)).2<32:=by
  rw[bX3]
  have:=v.pt
  have e:2^64=18446744073709551616:=by decide
  have J:32^12=1152921504606846976:=by decide
  rw[J];lia
 obtain⟨a,O,G⟩:=hm.full.from z (Nat.lt_succ_of_le hy)
 obtain⟨m,h1,h2,_,D⟩:=far mask (12+a) p v;refine⟨m,by lia,?_⟩
 rw[D (by lia),h2,bQi,bX6 a _ B,G]
def Ris(xs:List Nat):Prop:=xs.Pairwise (· < ·)
theorem bX7(xs:Array Nat)(j:Nat)(hr:Ris xs.toList):∀(fuel lo hi:Nat),hi-lo<=fuel->lo<=hi->hi<=xs.size->(∀i,i<lo->xs.getD i j<j)->(∀i,hi<=i->i<xs.size->j<=xs.getD i j) ->
  below.go xs j fuel lo hi<=xs.size/\(∀i,i<below.go xs j fuel lo hi->xs.getD i j<j)/\∀i,below.go xs j fuel lo hi<=i->i<xs.size->j<=xs.getD i j
 |0,lo,hi,hf,hl,hs,h1,h2=>by
  have e:lo=hi:=by lia
  subst e;exact⟨hs,h1,h2⟩
 |fuel+1,lo,hi,hf,hl,hs,h1,h2=>by
  unfold below.go
  by_cases z:lo<hi
  ·rw[if_pos z];have mlt:(lo+hi)/2<xs.size:=by lia
   have mono:∀a b,a<=b->b<xs.size->xs.getD a j<=xs.getD b j:=λa b O G=>by
    rcases Nat.lt_or_eq_of_le O with h|h
    ·have q:=(bT.mp hr) a b (by simpa using Nat.lt_trans h G) (by simpa using G) h
     simp only[iy,G,Nat.lt_trans h G,dif_pos];simpa using Nat.le_of_lt q
    ·subst h;exact Nat.le_refl _
   by_cases D:xs.getD ((lo+hi)/2) j<j
   ·simp only[D,if_true];exact bX7 xs j hr fuel _ hi (by lia) (by lia) hs (λi B=>Nat.lt_of_le_of_lt (mono i ((lo+hi)/2) (by lia) mlt) D) h2
   ·simp only[D,if_false];exact bX7 xs j hr fuel lo _ (by lia) (by lia) (by lia) h1 (λi B J=>Nat.le_trans (Nat.le_of_not_lt D) (mono _ i B J))
  ·rw[if_neg z];have e:lo=hi:=by lia
   subst e;exact⟨hs,h1,h2⟩
theorem bZm(hr:Ris xs.toList)(j:Nat):below xs j<=xs.size/\(∀i,i<below xs j->xs.getD i j<j)/\∀i,below xs j<=i->i<xs.size->j<=xs.getD i j :=
 bX7 xs j hr xs.size 0 xs.size (by lia) (by lia) (Nat.le_refl _) (λi h=>absurd h (Nat.not_lt_zero _)) (λi h h'=>absurd h' (Nat.not_lt.mpr h))
theorem dJ6(hr:Ris xs.toList){i j:Nat}(h:xs[i]?=some j):below xs j=i:=by
 obtain⟨hi,e⟩:=dI.mp h;obtain⟨b1,J,G⟩:=bZm hr j;have Z:∀k,k<xs.size->xs.getD k j=xs.getD k 0:=λk D=>by simp[iy,D]
 have Y:xs.getD i j=j:=by simp[iy,hi,e]
 have inc:∀a b,a<b->b<xs.size->xs.getD a j<xs.getD b j:=λa b z B=>by
  have q:=(bT.mp hr) a b (by simpa using Nat.lt_trans z B) (by simpa using B) z
  simp only[iy,B,Nat.lt_trans z B,dif_pos];simpa using q
 rcases Nat.lt_trichotomy (below xs j) i with h|h|h
 ·have U:=inc _ _ h hi;have O:=G _ (Nat.le_refl _) (Nat.lt_trans h hi);lia
 ·exact h
 ·have q:=J i h;lia
structure Tab(t:a6):Prop where
 mask:Mask t.mask
 nodum:t.dummies=#[]
 ris:Ris t.place.toList
 top:∀j∈t.place.toList,j<=t.mask
theorem cQc(T:Tab t){j i:Nat}(h:t.place[i]?=some j):t.slot j=.live i:=by
 unfold a6.slot;dsimp only;rw[dJ6 T.ris h,h];simp
theorem dQ5(T:Tab t){j:Nat}(h:j∉t.place.toList):t.slot j=.empty:=by
 unfold a6.slot;dsimp only;have e:(t.place[below t.place j]?==some j)=false:=by
  cases q:t.place[below t.place j]?==some j with
  |false=>rfl
  |true =>
   have:=iW q
   obtain⟨hi,e⟩:=dI.mp this;exact absurd (by rw[<- e];simp) h
 rw[e];simp only[aM,if_false];have z:has t.dummies j=false:=by rw[T.nodum];unfold has;simp
 rw[z];simp
theorem cXr(T:Tab t)(j:Nat):(∃i,t.slot j=.live i/\t.place[i]?=some j)\/(t.slot j=.empty/\j∉t.place.toList):=by
 by_cases h:j∈t.place.toList
 ·obtain⟨i,hi,e⟩:=bd h;have q:t.place[i]?=some j:=by
   rw[dI];exact⟨by simpa using hi,by simpa using e⟩
  exact .inl ⟨i,cQc T q,q⟩
 ·exact .inr ⟨dQ5 T h,h⟩
theorem dQ6(T:Tab t)(hashAt:Nat->Int)(h:Int):∀(fuel:Nat) (p:Probe),p.dummy=none->(∃m,m<fuel/\(road t.mask m p).j∉t.place.toList) ->
    ∃m,m<fuel/\(∀m',m'<m->∃i,t.place[i]? =some (road t.mask m' p).j/\hashAt i≠h) /\
      (((road t.mask m p).j ∉ t.place.toList /\ probe.go t hashAt h fuel p=some (.empty (road t.mask m p).j none)) \/
       ∃i,t.place[i]? =some (road t.mask m p).j/\t.slot (road t.mask m p).j=.live i/\hashAt i=h/\probe.go t hashAt h fuel p=some (.candidate (road t.mask m p).j i (road t.mask (m+1) p)))
  |0,p,_,⟨m,hm,_⟩ =>absurd hm (Nat.not_lt_zero _)
  |fuel+1,p,hd,⟨m,hm,hf⟩ =>by
    unfold probe.go;rcases cXr T p.j with⟨i,e,q⟩|⟨e,q⟩
    · rw [e]
      dsimp only
      by_cases z:hashAt i=h
      · refine⟨0,Nat.succ_pos _,λ_ h' =>absurd h' (Nat.not_lt_zero _),.inr ⟨i,q,e,z,?_⟩⟩
        rw [if_pos (by simpa using z),bZk]
        rfl
      · rw [if_neg (by simpa using z),bZk]
        cases m with
        |zero =>exact absurd (eB.mpr (fT q)) hf
        |succ m =>
          obtain⟨B,h1,h2,G⟩:=dQ6 T hashAt h fuel (step t.mask p) (by rw [bZl]; exact hd) ⟨m,by lia,hf⟩
          refine⟨B+1,by lia,λm' D =>?_,G⟩
          cases m' with
          |zero =>exact⟨i,q,z⟩
          |succ m' =>exact h2 m' (by lia)
    · rw [e]
      exact⟨0,Nat.succ_pos _,λ_ h' =>absurd h' (Nat.not_lt_zero _),.inl ⟨q,by rw [hd]; rfl⟩⟩
theorem bZn(T:Tab t)(hn:t.place.size<=t.mask):∃y,y<=t.mask/\y∉t.place.toList:=by
 apply aI;intro z;have all:=λy j=>aI λh=>z ⟨y,Nat.le_of_lt_succ j,h⟩;have hl:(a4 (t.mask+1)).length<=t.place.toList.length:=by
  apply List.Nodup.length_le_of_subset List.nodup_range;intro y j;exact all y (bf.mp j)
 rw[hX] at hl
 have:t.place.toList.length=t.place.size:=by simp
 lia
theorem cXs(T:Tab t)(hn:t.place.size<=t.mask)(hashAt:Nat->Int)(h:Int){p:Probe}(v:PV t.mask p)(hd:p.dummy=none) :
    ∃m,(∀m',m'<m->∃i,t.place[i]? =some (road t.mask m' p).j/\hashAt i≠h) /\
      (((road t.mask m p).j ∉ t.place.toList /\ t.probe hashAt h p=some (.empty (road t.mask m p).j none)) \/
       ∃i,t.place[i]? =some (road t.mask m p).j/\t.slot (road t.mask m p).j=.live i/\hashAt i=h/\t.probe hashAt h p=some (.candidate (road t.mask m p).j i (road t.mask (m+1) p))):=by
  obtain⟨y,B,hf⟩:=bZn T hn;obtain⟨m,hm,e⟩:=fXi T.mask v B;obtain⟨z,_,h2,D⟩:=dQ6 T hashAt h (10*turns t.mask) p hd ⟨m,hm,by rw [e]; exact hf⟩
  exact⟨z,h2,D⟩
end ST
set_option autoImplicit true
namespace ST
open PySem PySem.SetTable
theorem aJ3(xs:Array α)(p:Nat)(x:α)(h:p<=xs.size):(insertAt xs p x).toList=xs.toList.take p++x::xs.toList.drop p:=by
 unfold insertAt;simp only[cL,cG,Array.toList_extract,be,List.singleton_append];simp only[List.extract,kD,Nat.sub_zero];rw[bQ (l:=List.drop p xs.toList) (by simp)]
theorem aXe{α:Type}{l:List α}{x y:α}(hp:p<=l.length)(h:(l.take p++x::l.drop p)[i]?=some y):(i<p/\l[i]?=some y)\/(i=p/\y=x)\/(p<i/\l[i-1]?=some y):=by
 have hl:(l.take p).length=p:=by rw[aP];lia
 rcases Nat.lt_trichotomy i p with c|c|c
 ·left
  rw[d0 (by lia),gF c] at h
  exact⟨c,h⟩
 ·right;left
  subst c;rw[cA (by lia),hl,Nat.sub_self] at h
  simp at h;exact⟨rfl,h.symm⟩
 ·right;right
  rw[cA (by lia),hl] at h
  rw[show i-p=(i-1-p)+1 by lia,fD,List.getElem?_drop] at h
  rw[show p+(i-1-p)=i-1 by lia] at h
  exact⟨c,h⟩
structure SetI(es:Array (Int×ab))(t:a6):Prop where
 tab:Tab t
 size:t.place.size=es.size
 room:es.size*5<t.mask*3
 reach:∀(i j:Nat) (e:Int×ab),t.place[i]?=some j->es[i]?=some e->∃r,(road t.mask r (start t.mask e.1)).j=j/\∀r',r'<r->(road t.mask r' (start t.mask e.1)).j∈t.place.toList
theorem SetI.le(I:SetI es t):t.place.size<=t.mask:=by have:=I.size;have:=I.room;lia
theorem SetI.fits(I:SetI es t):t.fits es.size=true:=by
 unfold kM kN;rw[I.tab.nodum,I.size]
 have:=I.room
 simp only[aV,beq_iff_eq,decide_eq_true_eq];refine⟨trivial,?_⟩;simp;lia
theorem SetI.way(I:SetI es t):t.gaveWay=false:=by
 unfold a6.gaveWay;rcases I.tab.mask with e|e|e|e <;> rw[e] <;> rfl
theorem fresh_ok(f m:Nat)(led:Bool):SetI #[] (kF f m led) where
 tab:=⟨.inl rfl,rfl,.nil,λj h=>by simp[kF] at h⟩
 size:=rfl
 room:=by show 0*5<7*3;decide
 reach:=λi j e h=>by simp[kF] at h
structure Put(t t':a6)(j p:Nat):Prop where
 tab:Tab t'
 mask:t'.mask=t.mask
 le:p<=t.place.size
 place:t'.place.toList=t.place.toList.take p++j::t.place.toList.drop p
theorem fXj(T:Tab t){j:Nat}(hj:j<=t.mask)(hf:j∉t.place.toList):Put t (t.put j).1 j (t.put j).2:=by
 obtain⟨Z,b2,b3⟩:=bZm T.ris j;have e:(t.put j).1.place.toList=t.place.toList.take (below t.place j)++j::t.place.toList.drop (below t.place j):=aJ3 _ _ _ Z;have e2:(t.put j).1.dummies=#[]:=by
  show(if has t.dummies j=true then _ else t.dummies)=#[]
  have q:has t.dummies j=false:=by rw[T.nodum];unfold has;simp
  rw[q];simp[T.nodum]
 refine⟨⟨T.mask,e2,?_,?_⟩,rfl,Z,e⟩
 ·unfold Ris;rw[e,a9,aN];have U:=T.ris;have G:∀a∈t.place.toList.take (below t.place j),a<j:=λa B=>by
   obtain⟨i,hi,O⟩:=bd B;rw[aP] at hi;have D:i<t.place.size:=by (have:t.place.toList.length=t.place.size:=by simp);lia
   have q:=b2 i (by lia)
   simp only[iy,D,dif_pos] at q;rw[fW] at O;rw[<- O];simpa using q
  have J:∀a∈t.place.toList.drop (below t.place j),j<a:=λa B=>by
   obtain⟨i,hi,O⟩:=bd B;rw[bR] at hi;have hl:t.place.toList.length=t.place.size:=by simp
   have D:below t.place j+i<t.place.size:=by lia
   have q:=b3 (below t.place j+i) (by lia) D
   simp only[iy,D,dif_pos] at q;rw[hZ] at O;have ne:a≠j:=λz=>hf (by rw[<- z];exact eD B)
   have q':j<=a:=by rw[<- O];simpa using q
   lia
  refine⟨U.sublist (cF _ _),⟨J,U.sublist (List.drop_sublist _ _)⟩,λa B b Y=>?_⟩;rcases av.mp Y with rfl|Y
  ·exact G a B
  ·exact Nat.lt_trans (G a B) (J b Y)
 ·intro a B;rw[e] at B;rcases aY.mp B with B|B
  ·exact T.top a (c6 B)
  ·rcases av.mp B with rfl|B
   ·exact hj
   ·exact T.top a (eD B)
theorem put_set{es:Array (Int×ab)}{t:a6}(I:SetI es t){j r:Nat}{h:Int}{x:ab}(hj:j<=t.mask)(hf:j∉t.place.toList)(e:(road t.mask r (start t.mask h)).j=j)(hr:∀r',r'<r->(road t.mask r' (start t.mask h)).j∈t.place.toList) :
  ∀b,(insertAt es (t.put j).2 (h,x)).toList=es.toList.take (t.put j).2++(h,x)::es.toList.drop (t.put j).2/\(insertAt es (t.put j).2 (h,x)).size=es.size+1 /\
   Tab { (t.put j).1 with plain:=b}/\(t.put j).1.place.size=es.size+1/\(t.put j).1.mask=t.mask /\
   ∀(i j':Nat) (e':Int×ab),(t.put j).1.place[i]?=some j'->(insertAt es (t.put j).2 (h,x))[i]?=some e'->∃r,(road t.mask r (start t.mask e'.1)).j=j'/\∀r',r'<r->(road t.mask r' (start t.mask e'.1)).j∈(t.put j).1.place.toList:=by
 intro b;have P:=fXj I.tab hj hf;have hle:(t.put j).2<=es.size:=by rw[<- I.size];exact P.le
 have el:=aJ3 es (t.put j).2 (h,x) hle;have sz:(insertAt es (t.put j).2 (h,x)).size=es.size+1:=by
  have q:=congrArg dU el;rw[au,az,aP,bR] at q
  have:es.toList.length=es.size:=by simp
  rw[show(insertAt es (t.put j).2 (h,x)).toList.length=(insertAt es (t.put j).2 (h,x)).size by simp] at q
  lia
 have Y:(t.put j).1.place.size=es.size+1:=by
  have q:=congrArg dU P.place;rw[au,az,aP,bR] at q
  have:t.place.toList.length=t.place.size:=by simp
  have:=I.size
  have:=P.le
  rw[show(t.put j).1.place.toList.length=(t.put j).1.place.size by simp] at q
  lia
 refine⟨el,sz,⟨P.tab.mask,P.tab.nodum,P.tab.ris,P.tab.top⟩,Y,P.mask,λi j' e' h1 h2=>?_⟩;have sub:∀a∈t.place.toList,a∈(t.put j).1.place.toList:=λa O=>by
  rw[P.place];rw[<- bA (t.put j).2 t.place.toList] at O;rcases aY.mp O with O|O
  ·exact cZ _ O
  ·exact bz _ (ak _ O)
 have old:∀U,t.place.toList[U]?=some j'->es.toList[U]?=some e'->∃r,(road t.mask r (start t.mask e'.1)).j=j'/\∀r',r'<r->(road t.mask r' (start t.mask e'.1)).j∈(t.put j).1.place.toList:=λU a b=>by
  obtain⟨r,D,z⟩:=I.reach U j' e' (by rw[<- aS];exact a) (by rw[<- aS];exact b)
  exact⟨r,D,λr' G=>sub _ (z r' G)⟩
 have Z:(t.place.toList.take (t.put j).2++j::t.place.toList.drop (t.put j).2)[i]?=some j':=by rw[<- P.place];simpa using h1
 have J:(es.toList.take (t.put j).2++(h,x)::es.toList.drop (t.put j).2)[i]?=some e':=by rw[<- el];simpa using h2
 rcases aXe (by simpa using P.le) Z with⟨c1,D⟩|⟨c1,D⟩|⟨c1,D⟩
 ·rcases aXe (by simpa using hle) J with⟨B,z⟩|⟨B,z⟩|⟨B,z⟩
  ·exact old i D z
  ·lia
  ·lia
 ·rcases aXe (by simpa using hle) J with⟨B,z⟩|⟨B,z⟩|⟨B,z⟩
  ·lia
  ·subst D z;exact⟨r,e,λr' G=>sub _ (hr r' G)⟩
  ·lia
 ·rcases aXe (by simpa using hle) J with⟨B,z⟩|⟨B,z⟩|⟨B,z⟩
  ·lia
  ·lia
  ·exact old (i-1) D z
abbrev Own:=Array (Option Nat)
def liveOf(mask:Nat)(owner:Own):List (Nat×Nat):=(a4 (mask+1)).filterMap λj=>(owner.getD j none).map (j,·)
theorem aZ7{α β:Type}{f g:α->Option β}:∀{l:List α},(∀a∈l,f a=g a)->l.filterMap f=l.filterMap g
 |[],_=>rfl
 |a::l,h=>by
  rw[cK,cK,h a ai,aZ7 λb j=>h b (ak _ j)]
theorem dJ7{mask:Nat}(hs:owner.size=mask+1)(hj:j<=mask)(hn:owner.getD j none=none):(liveOf mask (owner.setIfInBounds j (some k))).Perm ((j,k)::liveOf mask owner):=by
 unfold liveOf;obtain⟨s,u,e⟩:=List.append_of_mem (bf.mpr (Nat.lt_succ_of_le hj));have nd:(a4 (mask+1)).Nodup:=List.nodup_range;rw[e] at nd ⊢;have h1:j∉s:=λh=>by
  have:=fh.mp nd
  exact absurd rfl (this.2.2 j h j ai)
 have h2:=λh=>by
  have:=fh.mp nd
  exact(bo.mp this.2.1).1 h
 have g:∀a,a≠j->(owner.setIfInBounds j (some k)).getD a none=owner.getD a none:=λa B=>by
  rw[cu,cu,ik (cE B)]
 have D:(owner.setIfInBounds j (some k)).getD j none=some k:=by
  rw[cu,f7 (by lia)];rfl
 rw[List.filterMap_append,List.filterMap_append,cK,cK,D,hn];simp only[Option.map_some,Option.map_none];rw[aZ7 λa B=>by rw[g a λz=>h1 (z▸B)],aZ7 (l:=u) λa B=>by rw[g a λz=>h2 (z▸B)]]
 exact gq
theorem cZc{owner:Own}(h:j<owner.size)(d:Option Nat):owner.getD j d=owner[j]:=by simp[iy,h]
theorem bJf{mask:Nat}{owner:Own}(hs:owner.size=mask+1):∀(fuel:Nat) (p:Probe),PV mask p->p.j=p.i->p.more=runEnd mask p.i-p.i->(∃l,l<fuel/\owner.getD (aZs mask l (p.i,p.perturb)).1 none=none) ->
  ∃r j,layClean.free mask owner fuel p.i p.perturb=some j/\(road mask r p).j=j/\j<=mask/\owner.getD j none=none/\∀r',r'<r->(owner.getD (road mask r' p).j none).isSome=true
 |0,p,_,_,_,⟨l,h,_⟩=>absurd h (Nat.not_lt_zero _)
 |fuel+1,p,v,U,hm,⟨l,hl,hf⟩=>by
  have re:=bQh mask p.i v.i;have jm:=v.j;have D:∀k,k<=p.more->p.i+k<=mask:=λk B=>by lia
  have gd:∀k,k<=p.more->owner.getD (p.i+k) (some 0)=owner.getD (p.i+k) none:=λk B=>by
   have:p.i+k<owner.size:=by have:=D k B;lia
   rw[cZc this,cZc this]
  have rd:∀k,k<=p.more->(road mask k p).j=p.i+k:=λk B=>by rw[dQ3 mask k p B,<- U]
  unfold layClean.free;have en:runEnd mask p.i+1-p.i=p.more+1:=by lia
  rw[en];cases hq:(a4 (p.more+1)).find? λk=>(owner.getD (p.i+k) (some 0)).isNone with
  |some k =>
   rw[List.find?_range_eq_some] at hq;obtain⟨h1,h2,Y⟩:=hq;have B:=Nat.le_of_lt_succ (bf.mp h2);refine⟨k,p.i+k,rfl,rd k B,D k B,?_,λr' G=>?_⟩
   ·rw[gd k B] at h1;exact Option.isNone_iff_eq_none.mp h1
   ·have q:=Y r' G;rw[gd r' (by lia)] at q
    rw[rd r' (by lia)]
    cases e:owner.getD (p.i+r') none with
    |none=>rw[e] at q;cases q
    |some z=>rfl
  |none =>
   rw[List.find?_eq_none] at hq;have taken:∀k,k<=p.more->(owner.getD (p.i+k) none).isSome=true:=λk B=>by
    have q:=hq k (bf.mpr (Nat.lt_succ_of_le B));rw[gd k B] at q;cases e:owner.getD (p.i+k) none with
    |none=>rw[e] at q;exact absurd rfl q
    |some z=>rfl
   cases l with
   |zero =>
    have q:=taken 0 (Nat.zero_le _);have J:owner.getD p.i none=none:=hf;rw[Nat.add_zero,J] at q;cases q
   |succ l =>
    have e:=dQ4 mask p;have O:PV mask (road mask (p.more+1) p):=PV.road _ v;obtain⟨r,j,f1,f2,Z,f4,f5⟩:=bJf hs fuel (road mask (p.more+1) p) O (by rw[e]) (by rw[e]) ⟨l,by lia,by rw[e];exact hf⟩
    refine⟨p.more+1+r,j,?_,by rw[aQu];exact f2,Z,f4,λr' G=>?_⟩
    ·rw[e] at f1;exact f1
    ·by_cases c:r'<=p.more
     ·rw[rd r' c];exact taken r' c
     ·have q:=f5 (r'-(p.more+1)) (by lia)
      rw[<- aQu,show p.more+1+(r'-(p.more+1))=r' by lia] at q
      exact q
structure OwnI(mask:Nat)(owner:Own)(hs:List Int):Prop where
 size:owner.size=mask+1
 perm:((liveOf mask owner).map (·.2)).Perm (a4 hs.length)
 reach:∀(j k:Nat),owner.getD j none=some k->∃h,hs[k]?=some h/\∃r,(road mask r (start mask h)).j=j/\∀r',r'<r->(owner.getD (road mask r' (start mask h)).j none).isSome=true
theorem OwnI.free{mask:Nat}(hm:Mask mask){owner:Own}{hs:List Int}(I:OwnI mask owner hs)(hl:hs.length<=mask):∃y,y<=mask/\owner.getD y none=none:=by
 apply aI;intro D;have all:∀y,y<mask+1->(owner.getD y none).isSome=true:=λy B=>by
  cases e:owner.getD y none with
  |none=>exact absurd ⟨y,Nat.le_of_lt_succ B,e⟩ D
  |some z=>rfl
 have len:((a4 (mask+1)).filterMap λj=>(owner.getD j none).map (j,·)).length=mask+1:=by
  have gen:∀l:List Nat,(∀y∈l,(owner.getD y none).isSome=true)->(l.filterMap λj=>(owner.getD j none).map (j,·)).length=l.length:=by
   intro l
   induction l with
   |nil=>intro _;rfl
   |cons a l G =>
    intro h;obtain⟨z,e⟩:=bM.mp (h a ai);rw[cK,e];simp only[Option.map_some,az];rw[G λy B=>h y (ak _ B)]
  rw[gen _ λy B=>all y (bf.mp B),hX]
 have q:=I.perm.length_eq;rw[ah,hX] at q;unfold liveOf at q;lia
theorem dQ7{mask:Nat}(hm:Mask mask){owner:Own}{y:Nat}(hy:y<=mask)(hf:owner.getD y none=none)(p:Probe)(v:PV mask p):∃l,l<turns mask/\owner.getD (aZs mask l (p.i,p.perturb)).1 none=none:=by
 have j:(aZs mask 12 (p.i,p.perturb)).1<mask+1:=by rw[aZv mask 11];exact Nat.lt_succ_of_le (cQb _ _ _)
 have z:(aZs mask 12 (p.i,p.perturb)).2<32:=by
  rw[bX3]
  have:=v.pt
  have e:2^64=18446744073709551616:=by decide
  have D:32^12=1152921504606846976:=by decide
  rw[D];lia
 obtain⟨a,G,B⟩:=hm.full.from j (Nat.lt_succ_of_le hy)
 refine⟨12+a,by unfold turns;lia,?_⟩
 rw[bQi,bX6 a _ z,B];exact hf
def dQ8(mask:Nat)(acc:Option (Own×Nat))(h:Int):Option (Own×Nat):=do
 let (owner,k) <- acc
 let j <- layClean.free mask owner (turns mask) (bits h%(mask+1)) (bits h)
 pure (owner.setIfInBounds j (some k),k+1)
theorem cZd{mask:Nat}(hm:Mask mask):∀(hs done:List Int) (owner:Own),OwnI mask owner done->done.length+hs.length<=mask ->
  ∃owner',hs.foldl (dQ8 mask) (some (owner,done.length))=some (owner',(done++hs).length)/\OwnI mask owner' (done++hs)
 |[],done,owner,I,_=>⟨owner,by rw[ce];rfl,by rw[ce];exact I⟩
 |h::hs,done,owner,I,hl=>by
  rw[az] at hl;obtain⟨y,hy,hf⟩:=I.free hm (by lia)
  have v:=aJ2 mask h;obtain⟨r,j,f1,f2,f3,f4,f5⟩:=bJf I.size (turns mask) (start mask h) v rfl rfl (dQ7 hm hy hf _ v);have O:j<owner.size:=by have:=I.size;lia
  have z:∀a,a≠j->(owner.setIfInBounds j (some done.length)).getD a none=owner.getD a none:=λa U=>by
   rw[cu,cu,ik (cE U)]
  have Z:(owner.setIfInBounds j (some done.length)).getD j none=some done.length:=by
   rw[cu,f7 O];rfl
  have more:∀a,(owner.getD a none).isSome=true->((owner.setIfInBounds j (some done.length)).getD a none).isSome=true:=λa U=>by
   by_cases c:a=j
   ·rw[c,Z];rfl
   ·rw[z a c];exact U
  have I':OwnI mask (owner.setIfInBounds j (some done.length)) (done++[h]):=by
   refine⟨by rw[Array.size_setIfInBounds];exact I.size,?_,λa k e=>?_⟩
   ·have q:=(dJ7 (k:=done.length) I.size f3 f4).map (·.2);rw[aL] at q;refine q.trans ?_;rw[au,d3,iM];exact(I.perm.cons _).trans (i9 _ _).symm
   ·by_cases c:a=j
    ·subst c;rw[Z] at e;cases e;refine⟨h,by simp,r,f2,λG J=>more _ (f5 G J)⟩
    ·rw[z a c] at e;obtain⟨h',B,G,D,e3⟩:=I.reach a k e;exact⟨h',by rw[d0 (aH.mp B).1];exact B,G,D,λx hx=>more _ (e3 x hx)⟩
  obtain⟨owner',B,D⟩:=cZd hm hs (done++[h]) _ I' (by rw[au,d3];lia)
  refine⟨owner',?_,by rw[be] at D;exact D⟩
  rw[List.foldl_cons];have es:dQ8 mask (some (owner,done.length)) h=some (owner.setIfInBounds j (some done.length),done.length+1):=by
   show(do let j <- layClean.free mask owner (turns mask) (bits h%(mask+1)) (bits h);pure (owner.setIfInBounds j (some done.length),done.length+1))=_
   have Y:layClean.free mask owner (turns mask) (bits h%(mask+1)) (bits h)=some j:=f1;rw[Y]
   rfl
  rw[es];rw[au,d3,be] at B;exact B
theorem dQ9(mask:Nat):OwnI mask (gO (mask+1) none) [] where
 size:=by simp
 perm:=by
  have e:liveOf mask (gO (mask+1) none)=[]:=by
   unfold liveOf;rw[List.filterMap_eq_nil_iff];intro a z
   have:(gO (mask+1) (none:Option Nat)).getD a none=none:=by
    rw[cu,jD];split <;> rfl
   rw[this];rfl
  rw[e];exact dJ _
 reach:=λj k e=>by
  have:(gO (mask+1) (none:Option Nat)).getD j none=none:=by
   rw[cu,jD];split <;> rfl
  rw[this] at e;cases e
theorem cQd{mask:Nat}(hm:Mask mask)(hs:Array Int)(hl:hs.size<=mask):∃owner,layClean mask hs=some owner/\OwnI mask owner hs.toList:=by
 obtain⟨owner,B,z⟩:=cZd hm hs.toList [] _ (dQ9 mask) (by simpa using hl)
 refine⟨owner,?_,by simpa using z⟩
 unfold layClean
 have:hs.foldl (init:=some (gO (mask + 1) none,0)) (λacc h=>do
  let (owner,k) <- acc
  let j <- layClean.free mask owner (turns mask) (bits h%(mask+1)) (bits h)
  pure (owner.setIfInBounds j (some k),k+1))=some (owner,hs.size):=by
  rw[<- Array.foldl_toList];have q:=B;simp only[bW,cg] at q;rw[show hs.toList.length=hs.size by simp] at q
  exact q
 rw[this]
 rfl
theorem fm_all{α β:Type}{f:α->Option β}:∀{l:List α},(∀a∈l,(f a).isSome=true)->(l.filterMap f).length=l.length/\∀i:Nat,(l.filterMap f)[i]?=(l[i]?).bind f
 |[],_=>⟨rfl,λi=>by simp⟩
 |a::l,h=>by
  obtain⟨z,e⟩:=bM.mp (h a ai);obtain⟨h1,h2⟩:=fm_all λb j=>h b (ak _ j);rw[cK,e];refine⟨by simp[h1],λi=>?_⟩
  cases i with
  |zero=>simp[e]
  |succ i=>simpa using h2 i
theorem cZe{mask:Nat}(h:(j,k)∈liveOf mask owner):j<=mask/\owner.getD j none=some k:=by
 obtain⟨a,B,e⟩:=eT.mp h;cases q:owner.getD a none with
 |none=>rw[q] at e;cases e
 |some z=>rw[q] at e;cases e;exact⟨Nat.le_of_lt_succ (bf.mp B),q⟩
theorem dJ8{mask:Nat}(h1:j<=mask)(h2:owner.getD j none=some k):(j,k)∈liveOf mask owner :=
 eT.mpr ⟨j,bf.mpr (Nat.lt_succ_of_le h1),by rw[h2];rfl⟩
theorem dJ9(mask:Nat)(owner:Own):Ris ((liveOf mask owner).map (·.1)):=by
 unfold Ris liveOf;rw[cV];refine List.Pairwise.filterMap _ ?_ (List.pairwise_lt_range);intro a B j b hb G hb';cases q:owner.getD a none with
 |none=>rw[q] at hb;cases hb
 |some z =>
  rw[q] at hb;cases hb;cases q':owner.getD B none with
  |none=>rw[q'] at hb';cases hb'
  |some D=>rw[q'] at hb';cases hb';exact j
theorem cZf{α:Type}(es:Array α):((a4 es.size).filterMap λk=>es[k]?)=es.toList:=by
 apply hW;intro i;have h:=fm_all (l:=a4 es.size) (f:=λk=>es[k]?) (λa j=>by
  have:=bf.mp j
  simp[this])
 rw[h.2 i]
 by_cases c:i<es.size
 ·rw[List.getElem?_range c];simp
 ·rw[cC (by simpa using c)];simp[c]
theorem dQa{es:Array (Int×ab)}{mask' wanted:Nat}(t:a6)(hm:Mask mask')(hw:sizeAbove wanted-1=mask')(hsz:es.size*5<mask'*3) :
  ∃t' order,t.relaid (es.map (·.1)) wanted=some (t',order)/\(order.filterMap (es[·]?)).size=es.size/\SetI (order.filterMap (es[·]?)) t'/\(order.filterMap (es[·]?)).toList.Perm es.toList:=by
 obtain⟨owner,e1,I⟩:=cQd hm (es.map (·.1)) (by rw[kG];lia)
 have el:(es.map (·.1)).toList.length=es.size:=by simp
 have G:=I.perm;rw[el] at G;have ks:∀k∈(liveOf mask' owner).map (·.2),(es[k]?).isSome=true:=λk hk=>by
  have:=bf.mp (G.mem_iff.mp hk)
  simp[this]
 obtain⟨f1,f2⟩:=fm_all ks;have D:(kh (es[·]?) ((liveOf mask' owner).map (·.2)).toArray).toList=((liveOf mask' owner).map (·.2)).filterMap (λk=>es[k]?):=by simp
 have perm:(kh (es[·]?) ((liveOf mask' owner).map (·.2)).toArray).toList.Perm es.toList:=by
  rw[D,<- cZf es];exact G.filterMap _
 have size:(kh (es[·]?) ((liveOf mask' owner).map (·.2)).toArray).size=es.size:=by
  have:=perm.length_eq
  simpa using this
 refine⟨{mask:=mask',place:=((liveOf mask' owner).map (·.1)).toArray,dummies:=#[],finger:=t.finger,led:=t.led,moves:=t.movedTo mask',plain:=t.plain},((liveOf mask' owner).map (·.2)).toArray,?_,size,?_,perm⟩
 ·unfold relaid laid;rw[hw,e1]
  rfl
 ·refine⟨⟨hm,rfl,?_,λj hj=>?_⟩,?_,?_,λi j e h1 h2=>?_⟩
  ·exact dJ9 _ _
  ·have O:=hj;obtain⟨⟨a,k⟩,h,rfl⟩:=aR.mp O;exact(cZe h).1
  ·rw[size];have:=G.length_eq
   simpa using this
  ·rw[size];exact hsz
  ·have h1':((liveOf mask' owner).map (·.1))[i]?=some j:=by simpa using h1
   have B:(((liveOf mask' owner).map (·.2)).filterMap (λk=>es[k]?))[i]?=some e:=by
    rw[<- D,aS];exact h2
   rw[f2 i] at B;rw[aQ] at h1' B;cases q:(liveOf mask' owner)[i]? with
   |none=>rw[q] at h1';cases h1'
   |some jk =>
    obtain⟨a,k⟩:=jk;rw[q] at h1' B;have ea:=a7 h1';subst ea;have ek:es[k]?=some e:=B;obtain⟨_,ow⟩:=cZe (am q);obtain⟨h,Z,r,r1,r2⟩:=I.reach a k ow;have U:e.1=h:=by
     have:(es.map (·.1)).toList[k]?=some e.1:=by
      rw[aS,Array.getElem?_map,ek];rfl
     rw[this] at Z;exact a7 Z
    rw[U];refine⟨r,r1,λY J=>?_⟩;obtain⟨z,ez⟩:=bM.mp (r2 Y J);have pv:=PV.road Y (aJ2 mask' h)
    have:=pv.j
    exact aR.mpr ⟨_,dJ8 (by lia) ez,rfl⟩
theorem grow{mask n:Nat}(hm:Mask mask)(h1:n*5<mask*3)(h2:(n+1)*5>=mask*3)(hn:n+1<=300):∃mask',Mask mask'/\sizeAbove (grown (n+1))-1=mask'/\(n+1)*5<mask'*3/\¬ sizeAbove (grown (n+1))>sizeLine:=by
 rcases hm with rfl|rfl|rfl|rfl
 ·have e:n=4:=by lia
  subst e;exact⟨31,.inr (.inl rfl),by decide +kernel,by decide,by decide +kernel⟩
 ·have e:n=18:=by lia
  subst e;exact⟨127,.inr (.inr (.inl rfl)),by decide +kernel,by decide,by decide +kernel⟩
 ·have e:n=76:=by lia
  subst e;exact⟨511,.inr (.inr (.inr rfl)),by decide +kernel,by decide,by decide +kernel⟩
 ·lia
open PySem.Spec PyProof.Rows
section
variable{prog:ax}{w:aK}{A:aU}{E:ab->ag->Prop}{s:ag}
def TK(prog:ax)(w:aK)(h:bb)(k:List Str)(v:ab):Prop:=∃b,v=.ref b/\j7 (strKind prog w) h k b
theorem TK.inj(a:TK prog w h k v)(b:TK prog w h k' v):k=k':=by
 obtain⟨z,rfl,h1⟩:=a;obtain⟨j,e,h2⟩:=b;cases e;exact h1.inj h2
abbrev hashT(prog:ax)(w:aK)(k:List Str):Int:=tupleKeyHash (strKind prog w) k
theorem bX8(h:ItemsAre (strKind prog w) k vs):∀v∈vs,∃x t,v=jJ x t:=by
 induction h with
 |nil=>intro v hv;cases hv
 |cons h1 _ j =>
  intro v hv;rcases av.mp hv with rfl|hv
  ·obtain⟨t,e⟩:=fw h1;exact⟨_,t,e⟩
  ·exact j v hv
theorem cZg(hk:TK prog w s.heap k v)(h:Q false s):aE (aF prog w) A (fX 8 v) Q E s:=by
 obtain⟨b,rfl,hk⟩:=hk;have G:=hk.typeIs;obtain⟨o,items,n,D,_,hd,hi⟩:=hk;unfold fX;refine aa (g8 G ?_);simp only[beq_self_eq_true,if_true];refine aa (ad ?_);simp only[gJ,aM,if_false];refine aa (dM D hd ?_);refine aa ?_;rw[<- gS];refine gu _ (λrest r s'=>r.1=none/\s'=s/\∀v∈rest,∃x t,v=jJ x t) _ ?_ ?_ _ _ ⟨rfl,rfl,bX8 hi⟩
 ·rintro x rest r s' ⟨z,rfl,j⟩;obtain⟨y,t,rfl⟩:=j x ai;refine aa (ad ?_);simp only[aM,if_false];exact ad ⟨rfl,rfl,λu B=>j u (ak _ B)⟩
 ·rintro⟨O,J⟩ s' ⟨z,rfl,_⟩;simp only at z;subst z;exact ad h
theorem eQq(hk:TK prog w s.heap k v)(h:Q true s):aE (aF prog w) A (eqIsQuiet 8 v) Q E s:=by
 obtain⟨b,rfl,hk⟩:=hk;exact wpAny_eqIsQuiet_tuple hk h
theorem eXq{stored:List ab}(hx:TK prog w s.heap k x)(hs:∀y∈stored,∃k',TK prog w s.heap k' y)(h:Q false s) :
  aE (aF prog w) A (searchCouldBeSeen x stored) Q E s:=by
 refine aa (gu _ (λrest r s'=>r.1=none/\s'=s/\∀y∈rest,∃k',TK prog w s.heap k' y) _ ?_ ?_ _ _ ⟨rfl,rfl,hs⟩)
 ·rintro y rest r s' ⟨O,rfl,j⟩;obtain⟨k',J⟩:=j y ai;have fin:=λz Y=>j z (ak _ Y);obtain⟨U,ex,_⟩:=id hx;obtain⟨D,Z,_⟩:=id J
  have main:∀ c:Bool,aE (aF prog w) A (if c=true then pure (bD ((none,()))) else do
    if !(<- eqIsQuiet 8 x) then pure (bn (some true,())) else
    if !(<- eqIsQuiet 8 y) then pure (bn (some true,())) else
    if <- fX 8 x then pure (bn (some true,())) else
    if <- fX 8 y then pure (bn (some true,())) else pure (bD (none,())))
    (λr B=>match r with
     |bD G=>G.fst=none/\B=s'/\∀(y:ab),y∈rest->∃k',TK prog w s'.heap k' y
     |bn G=>False) E s':=by
   intro c;cases c with
   |true=>exact ad ⟨rfl,rfl,fin⟩
   |false =>
    simp only[aM,if_false];refine aa (eQq hx ?_);simp only[gJ,aM,if_false];refine aa (eQq J ?_);simp only[gJ,aM,if_false];refine aa (cZg hx ?_);simp only[aM,if_false];refine aa (cZg J ?_);simp only[aM,if_false];exact ad ⟨rfl,rfl,fin⟩
  rw[ex,Z] at main ⊢;refine dw (main ((U==D)||(ja (.ref U)&&ja (.ref D)))) (λr s1 h=>?_) (λ_ _ e=>e)
  cases r with
  |yield G=>exact h
  |done G=>exact h.elim
 ·rintro⟨r1,r2⟩ s' ⟨O,rfl,_⟩;simp only at O;subst O;exact ad h
def ElT(prog:ax)(w:aK)(h:bb)(es:List (Int×ab)):Prop:=∀e∈es,∃k,TK prog w h k e.2/\e.1=hashT prog w k
structure SetAt(h:bb)(a:Addr)(es:Array (Int×ab))(ep:Nat)(t:a6):Prop where
 obj:h.get? a=some {cls:=.type "set",dict:=none,data:=.set es ep t}
 inv:SetI es t
theorem SetAt.state(S:SetAt s.heap a es ep t)(h:Q (es,ep,t) s):aE (aF prog w) A (setState a) Q E s :=
 dN S.obj rfl S.inv.fits h
theorem cQe(S:SetAt s.heap a es ep t)(hu:A.units<bN)(hel:ElT prog w s.heap es.toList)(hx:TK prog w s.heap k x)
  {M0:Nat}(hM:(road t.mask M0 (start t.mask (hashT prog w k))).j∉t.place.toList) {Q:SetFound->ag->Prop}
  (hfound:∀i?,(adding=true\/i?.isSome=true)->(∃e∈es.toList,TK prog w s.heap k e.2)->Q (.there i?) s)
  (hfree:∀j r,j<=t.mask->j∉t.place.toList->(road t.mask r (start t.mask (hashT prog w k))).j=j->(∀r',r'<r->(road t.mask r' (start t.mask (hashT prog w k))).j∈t.place.toList)->(¬ ∃e∈es.toList,TK prog w s.heap k e.2)->Q (.free j false) s) :
  ∀(fuel m:Nat) (stand:Option Probe),M0<fuel+m->stand.getD (t.probeStart (hashT prog w k))=road t.mask m (start t.mask (hashT prog w k)) ->
   (∀m',m'<m->∃(i:Nat) (e:Int×ab),t.place[i]?=some (road t.mask m' (start t.mask (hashT prog w k))).j/\es[i]?=some e/\¬ TK prog w s.heap k e.2)->m<=M0 ->
   aE (aF prog w) A (setSearchFrom a x (hashT prog w k) adding fuel stand) Q E s
 |0,m,stand,hf,_,_,hm=>by lia
 |fuel+1,m,stand,hf,hst,hpast,hm=>by
  refine aa (S.state ?_);dsimp only;rw[S.inv.way];simp only[aM,if_false];have v:=PV.road m (aJ2 t.mask (hashT prog w k));have dn:∀m,(road t.mask m (start t.mask (hashT prog w k))).dummy=none:=λm=>by
   induction m with
   |zero=>rfl
   |succ m ih=>rw[bQg,bZl];exact ih
  obtain⟨J,p1,p2⟩:=cXs S.inv.tab S.inv.le (λi=>(es[i]?.map (·.1)).getD 0) (hashT prog w k) v (dn m);rw[hst];have ahead:∀r,r<m+J->∃(i:Nat) (e:Int×ab),t.place[i]?=some (road t.mask r (start t.mask (hashT prog w k))).j/\es[i]?=some e/\¬ TK prog w s.heap k e.2:=λr hr=>by
   by_cases c:r<m
   ·exact hpast r c
   ·obtain⟨i,G,q2⟩:=p1 (r-m) (by lia)
    rw[<- aQu,show m+(r-m)=r by lia] at G
    obtain⟨hi,_⟩:=dI.mp G;have U:i<es.size:=by rw[<- S.inv.size];exact hi
    have Y:es[i]?=some es[i]:=by simp[U]
    refine⟨i,es[i],G,Y,λz=>q2 ?_⟩;obtain⟨O,z',eh⟩:=hel es[i] (by simp)
    rw[Y];show es[i].1=_;rw[eh,z'.inj z]
  have inplace:∀r,r<m+J->(road t.mask r (start t.mask (hashT prog w k))).j∈t.place.toList:=λr hr=>by
   obtain⟨i,e,q,_⟩:=ahead r hr;exact eB.mpr (fT q)
  have hmM:m+J<=M0:=by
   rcases Nat.lt_or_ge M0 (m+J) with c|c
   ·exact absurd (inplace M0 c) hM
   ·exact c
  rcases p2 with⟨G,q2⟩|⟨i,G,q2,q3,q4⟩
  ·generalize hP:a6.probe t _ (hashT prog w k) (road t.mask m (start t.mask (hashT prog w k)))=pr;have e2:pr=some (.empty (road t.mask J (road t.mask m (start t.mask (hashT prog w k)))).j none):=by rw[<- hP];exact q2
   rw[e2];rw[<- aQu] at G ⊢;have pv:=(PV.road (m+J) (aJ2 t.mask (hashT prog w k))).j;refine ad (hfree _ (m+J) (by lia) G rfl inplace ?_)
   rintro⟨e,he,hke⟩;obtain⟨i,hi,ei⟩:=bd he;have Y:es[i]?=some e:=by
    have h2:i<es.size:=by simpa using hi
    rw[<- ei];simp[h2]
   have U:i<t.place.size:=by rw[S.inv.size];simpa using hi
   obtain⟨r,r1,r2⟩:=S.inv.reach i t.place[i] e (by simp[U]) Y
   obtain⟨O,z',eh⟩:=hel e he;have hk':=z'.inj hke;rw[eh,hk'] at r1 r2;rcases Nat.lt_or_ge r (m+J) with c|c
   ·obtain⟨i',e',a1,a2,a3⟩:=ahead r c;rw[r1] at a1;have s1:=cQc S.inv.tab a1;have s2:=cQc (j:=t.place[i]) (i:=i) S.inv.tab (by simp[U])
    rw[s1] at s2;cases s2;rw[Y] at a2;cases a2;exact a3 hke
   ·rcases Nat.lt_or_eq_of_le c with c|c
    ·exact G (r2 _ c)
    ·rw[c,r1] at G;exact G (by simp)
  ·generalize hP:a6.probe t _ (hashT prog w k) (road t.mask m (start t.mask (hashT prog w k)))=pr;have e2:pr=some (.candidate (road t.mask J (road t.mask m (start t.mask (hashT prog w k)))).j i (road t.mask (J+1) (road t.mask m (start t.mask (hashT prog w k))))):=by rw[<- hP];exact q4
   rw[e2];have U:i<es.size:=by
    obtain⟨hi,_⟩:=dI.mp G;rw[<- S.inv.size];exact hi
   have Y:es[i]?=some es[i]:=by simp[U]
   obtain⟨O,hy,eh⟩:=hel es[i] (by simp)
   by_cases Z:t.led=true
   ·rw[Z];simp only[gJ,aM,if_false];rw[Y];obtain⟨b,eb,hb⟩:=hy;obtain⟨bx,ex,hbx⟩:=id hx;have D:es[i]=(es[i].1,cY b):=by rw[<- eb]
    rw[D];refine aa (bS ?_);rw[ex];refine jb hu hb hbx ?_;refine aa (S.state ?_);have yes:O=k->∃e∈es.toList,TK prog w s.heap k e.2:=λc=>⟨es[i],by simp,⟨b,eb,c▸hb⟩⟩
    by_cases B:(adding&&decide (O=k))=true
    ·rw[if_pos B];have c:O=k:=by
      simp only[aV,decide_eq_true_eq] at B;exact B.2
     exact ad (hfound none (.inl (by simp only[aV] at B;exact B.1)) (yes c))
    ·rw[if_neg B];have sm:t.sameMemory t.moves t.mask=some true:=by unfold sameMemory;rw[if_pos (by simp)]
     rw[sm];dsimp only;rw[if_pos rfl,q2];dsimp only;rw[Y,D];refine aa (wpAny_isSame_ref_self ?_);rw[if_pos rfl];refine aa (ad ?_);dsimp only
     by_cases c:O=k
     ·rw[decide_eq_true c,if_pos rfl];exact ad (hfound _ (.inr rfl) (yes c))
     ·rw[decide_eq_false c,if_neg bh];rw[<- ex];refine cQe S hu hel hx hM hfound hfree fuel (m+J+1) _ (by lia) ?_ (λr hr=>?_) ?_
      ·show road t.mask (J+1) (road t.mask m _)=_;rw[<- aQu,Nat.add_assoc]
      ·rcases Nat.lt_or_eq_of_le (Nat.le_of_lt_succ hr) with d|d
       ·exact ahead r d
       ·rw[d];rw[<- aQu] at G;refine⟨i,es[i],G,Y,λz=>c ?_⟩;exact TK.inj ⟨b,eb,hb⟩ z
      ·rcases Nat.lt_or_eq_of_le hmM with d|d
       ·exact d
       ·rw[<- aQu] at G;rw[d] at G;exact absurd (eB.mpr (fT G)) hM
   ·have hled':=fg.mpr Z;rw[hled'];simp only[kH,if_true];refine aa (eXq hx (λy hy'=>?_) ?_)
    ·obtain⟨e,he,rfl⟩:=aR.mp hy';have he':e∈es.toList:=by
      have:=eB.mp he
      exact eB.mpr (Array.mem_filter.mp this).1
     obtain⟨O,z,_⟩:=hel e he';exact⟨O,z⟩
    ·simp only[aM,if_false];rw[Y];obtain⟨b,eb,hb⟩:=hy;obtain⟨bx,ex,hbx⟩:=id hx;have D:es[i]=(es[i].1,cY b):=by rw[<- eb]
     rw[D];refine aa (bS ?_);rw[ex];refine jb hu hb hbx ?_;refine aa (S.state ?_);have yes:O=k->∃e∈es.toList,TK prog w s.heap k e.2:=λc=>⟨es[i],by simp,⟨b,eb,c▸hb⟩⟩
     by_cases B:(adding&&decide (O=k))=true
     ·rw[if_pos B];have c:O=k:=by
       simp only[aV,decide_eq_true_eq] at B;exact B.2
      exact ad (hfound none (.inl (by simp only[aV] at B;exact B.1)) (yes c))
     ·rw[if_neg B];have sm:t.sameMemory t.moves t.mask=some true:=by unfold sameMemory;rw[if_pos (by simp)]
      rw[sm];dsimp only;rw[if_pos rfl,q2];dsimp only;rw[Y,D];refine aa (wpAny_isSame_ref_self ?_);rw[if_pos rfl];refine aa (ad ?_);dsimp only
      by_cases c:O=k
      ·rw[decide_eq_true c,if_pos rfl];exact ad (hfound _ (.inr rfl) (yes c))
      ·rw[decide_eq_false c,if_neg bh];rw[<- ex];refine cQe S hu hel hx hM hfound hfree fuel (m+J+1) _ (by lia) ?_ (λr hr=>?_) ?_
       ·show road t.mask (J+1) (road t.mask m _)=_;rw[<- aQu,Nat.add_assoc]
       ·rcases Nat.lt_or_eq_of_le (Nat.le_of_lt_succ hr) with d|d
        ·exact ahead r d
        ·rw[d];rw[<- aQu] at G;refine⟨i,es[i],G,Y,λz=>c ?_⟩;exact TK.inj ⟨b,eb,hb⟩ z
       ·rcases Nat.lt_or_eq_of_le hmM with d|d
        ·exact d
        ·rw[<- aQu] at G;rw[d] at G;exact absurd (eB.mpr (fT G)) hM
end
section
variable{prog:ax}{w:aK}{A:aU}{E:ab->ag->Prop}{s:ag}
theorem cQf(a:Addr)(wanted:Nat):setRelay a wanted=(do
 let (es,_,t) <- setState a
 if a6.sizeAbove wanted>sizeLine then fH "set:memory"
 let (es,t) <- (do
  let some (t,order):=t.relaid (es.map (·.1)) wanted|fH "internal:set-table-without-room"
  let es':=order.filterMap (es[·]?)
  if es'.size !=es.size then fH "internal:set-table-lost-an-element"
  pure (es',t))
 storeSet a es t):=by rfl
theorem hbvT(hk:TK prog w s.heap k v)(h:Q (decide (k=[])) s):aE (aF prog w) A (hashByValue 8 v) Q E s:=by
 obtain⟨b,rfl,hk⟩:=hk;have B:=hk.typeIs;obtain⟨o,items,n,z,_,hd,hi⟩:=hk;refine aa (wpAny_specialOf B PySem.F.slot_tuple_hash.lookup ?_);refine aa (dM z hd ?_);refine aa ?_;show aE _ _ (forIn items _ _) _ _ s;rw[<- gS];generalize hits:items.toList=j at hi;cases hi with
 |nil =>
  rw[jc];exact ad (ad h)
 |cons h1 h2 =>
  obtain⟨t,e⟩:=fw h1;subst e;rw[dW];have D:∀n x t,hashByValue n (jJ x t)=pure false:=λn x t=>by unfold hashByValue;rfl
  rw[D];refine aa (aa (ad ?_));simp only[kH,if_true];refine ad ?_;exact ad (ad (by simpa using h))
def bZo(prog:ax)(w:aK)(h:bb)(es:List (Int×ab))(t:a6):Prop:=t.plain=true->∀e∈es,TK prog w h [] e.2
theorem addT(S:SetAt s.heap a es ep t)(hu:A.units<bN)(hel:ElT prog w s.heap es.toList)(hpl:bZo prog w s.heap es.toList t)(hx:TK prog w s.heap k x)(hn:es.size+1<=300){Q:Bool->ag->Prop}
  (h:∀ h' es' ep' t' added,SetAt h' a es' ep' t'->dj a s.heap h'->bZo prog w s.heap es'.toList t'->t'.led=t.led ->
   ((added=false/\es'=es/\∃e∈es.toList,TK prog w s.heap k e.2)\/(added=true/\es'.toList.Perm ((hashT prog w k,x)::es.toList)/\¬ ∃e∈es.toList,TK prog w s.heap k e.2))->Q added {s with heap:=h'}) :
  aE (aF prog w) A (j8 a x (hashT prog w k)) Q E s:=by
 refine bS (aa (S.state ?_));dsimp only;have hbs:byScan x es=false:=by
  obtain⟨b,rfl,_⟩:=hx
  rfl
 rw[hbs];simp only[aM,if_false];obtain⟨y,hy,hf⟩:=bZn S.inv.tab S.inv.le;obtain⟨m,hm,e⟩:=fXi S.inv.tab.mask (aJ2 t.mask (hashT prog w k)) hy;have hm':m<100000+0:=by
  have:=S.inv.tab.mask
  have:t.mask<=511:=by rcases this with z|z|z|z <;> lia
  lia
 refine aa ?_;refine cQe S hu hel hx (by rw[e];exact hf) (λi? _ hyes=>?_) (λj r hj hfj ej hrj hno=>?_) 100000 0 none hm' rfl (λm' h'=>absurd h' (Nat.not_lt_zero _)) (Nat.zero_le _)
 ·have q:=h s.heap es ep t false S (kQ a s.heap) hpl rfl (.inl ⟨rfl,rfl,hyes⟩);exact ad q
 ·refine aa (S.state ?_);have P:=put_set (x:=x) S.inv hj hfj ej hrj true;obtain⟨p1,p2,p3,p4,p5,p6⟩:=P;have p3d:=p3.nodum;have p3r:=p3.ris;have p3t:=p3.top;generalize hes:a6.insertAt es (t.put j).2 (hashT prog w k,x)=B at p1 p2 p6 ⊢;have D:B.toList.Perm ((hashT prog w k,x)::es.toList):=by
   rw[p1];refine gq.trans ?_;rw[bA]
  have rest:∀ tt:a6,tt.place=(t.put j).1.place->tt.dummies=#[]->tt.mask=t.mask->tt.led=t.led->(tt.plain=true->t.plain=true/\k=[])->aE (aF prog w) A (do
    storeSet a B tt
    if (!false&&tt.tooFull)=true then do
     setRelay a (dO (es.size+1))
     pure true
    else pure true) Q E s:=by
   intro tt h1 h2 h3 h4 h5;have T':Tab tt:=⟨by rw[h3];exact S.inv.tab.mask,h2,by rw[h1];exact p3r,λa ha=>by rw[h1] at ha;rw[h3,<- p5];exact p3t a ha⟩
   have J:∀O:List (Int×ab),O.Perm ((hashT prog w k,x)::es.toList)->∀t2:a6,t2.plain=tt.plain->bZo prog w s.heap O t2:=by
    intro O hp t2 ht2 hpt ee hee;rw[ht2] at hpt;obtain⟨q1,q2⟩:=h5 hpt;rcases av.mp (hp.mem_iff.mp hee) with q|q
    ·rw[q,<- q2];exact hx
    ·exact hpl q1 ee q
   have hz:B.size<=sizeLine:=by rw[p2,bH];lia
   refine aa (h9 S.obj rfl ?_ hz);have Y:(s.heap.update a (d7 B tt)).get? a=some {cls:=.type "set",dict:=none,data:=.set B (ep+1) tt}:=by
    have:=cT (d7 B tt) S.obj (by rw[iz _ _ rfl];rfl)
    rw[iz _ _ rfl] at this;exact this
   have Z:=cm s.heap a (d7 B tt);have tf:tt.tooFull=decide ((es.size+1)*5>=t.mask*3):=by
    unfold a6.tooFull kN;rw[h2,h1,p4,h3]
    rfl
   have room:=S.inv.room
   by_cases G:(es.size+1)*5>=t.mask*3
   ·rw[tf,decide_eq_true G];simp only[kH,Bool.and_self,if_true];obtain⟨mask',hm1,hm2,hm3,hm4⟩:=grow S.inv.tab.mask room G hn;obtain⟨t',order,r1,r2,r3,r4⟩:=dQa tt hm1 hm2 (by rw[p2];exact hm3)
    have hled:t'.led=tt.led/\t'.plain=tt.plain:=by
     unfold relaid laid at r1;cases hq:layClean (sizeAbove (grown (es.size+1))-1) (Array.map (·.1) B) with
     |none=>rw[hq] at r1;cases r1
     |some ow=>rw[hq] at r1;cases r1;exact⟨rfl,rfl⟩
    have hfit1:tt.fits B.size=true:=by
     unfold kM kN
     have:t.mask>=7:=by rcases S.inv.tab.mask with z|z|z|z <;> lia
     simp only[aV,beq_iff_eq,decide_eq_true_eq];rw[h2,h1,p4,p2,h3];refine⟨rfl,?_⟩;show es.size+1+0<=t.mask;lia
    refine aa ?_;rw[cQf];refine aa (dN Y rfl hfit1 ?_);dsimp only;rw[if_neg hm4,r1];dsimp only;rw[r2];simp only[bne_self_eq_false,aM,if_false,iX];have hz2:(order.filterMap (B[·]?)).size<=sizeLine:=by rw[r2];exact hz
    refine h9 Y rfl ?_ hz2;have ho2:((s.heap.update a (d7 B tt)).update a (d7 (order.filterMap (B[·]?)) t')).get? a=some {cls:=.type "set",dict:=none,data:=.set (order.filterMap (B[·]?)) (ep+1+1) t'}:=by
     have:=cT (d7 (order.filterMap (B[·]?)) t') Y (by rw[iz _ _ rfl];rfl)
     rw[iz _ _ rfl] at this;exact this
    have hsb2:=Z.trans (cm (s.heap.update a (d7 B tt)) a (d7 (order.filterMap (B[·]?)) t'));exact ad (h _ _ _ _ true ⟨ho2,r3⟩ hsb2 (J _ (r4.trans D) _ hled.2) (hled.1.trans h4) (.inr ⟨rfl,r4.trans D,hno⟩))
   ·rw[tf,decide_eq_false G];simp only[kC,aM,if_false];have I':SetI B tt:=by
     refine⟨T',by rw[h1,p4,p2],by rw[h3,p2];lia,λi j' e' q1 q2=>?_⟩
     rw[h1] at q1;obtain⟨r,r1,r2⟩:=p6 i j' e' q1 q2;rw[h3,h1];exact⟨r,r1,r2⟩
    exact ad (h _ _ (ep+1) _ true ⟨Y,I'⟩ Z (J _ D _ rfl) h4 (.inr ⟨rfl,D,hno⟩))
  by_cases hp:t.plain=true
  ·have U:(t.put j).1.plain=true:=hp;rw[U];simp only[if_true];refine aa (hbvT hx ?_)
   by_cases hk:k=[]
   ·rw[decide_eq_true hk];simp only[if_true];exact rest (t.put j).1 rfl p3d p5 rfl (λ_=>⟨hp,hk⟩)
   ·rw[decide_eq_false hk];simp only[aM,if_false];exact rest { (t.put j).1 with plain:=false} rfl p3d p5 rfl (λz=>nomatch z)
  ·have U:(t.put j).1.plain=false:=fg.mpr hp;rw[U];simp only[aM,if_false];refine aa (ad ?_);simp only[if_true];exact rest (t.put j).1 rfl p3d p5 rfl (λz=>by rw[U] at z;cases z)
theorem eXr(S:SetAt s.heap a es ep t)(hu:A.units<bN)(hel:ElT prog w s.heap es.toList)(hpl:bZo prog w s.heap es.toList t)(hx:TK prog w s.heap k x)(hn:es.size+1<=300){Q:Bool->ag->Prop}
  (h:∀ h' tk es' ep' t' added,SetAt h' a es' ep' t'->dj a s.heap h'->bZo prog w s.heap es'.toList t'->t'.led=t.led->s.toks<=tk ->
   ((added=false/\es'=es/\∃e∈es.toList,TK prog w s.heap k e.2)\/(added=true/\es'.toList.Perm ((hashT prog w k,x)::es.toList)/\¬ ∃e∈es.toList,TK prog w s.heap k e.2))->Q added {s with heap:=h',toks:=tk}) :
  aE (aF prog w) A (setAdd a x) Q E s:=by
 obtain⟨b,rfl,j⟩:=id hx;refine bS (aa (wpAny_pyHash_tuple hu j ?_));exact addT (s:={s with toks:=s.toks+(k.length+1)}) S hu hel hpl hx hn λh' es' ep' t' added h1 h2 D B z=>h h' _ es' ep' t' added h1 h2 D B (Nat.le_add_right _ _) z
end
def TupKeep(h h':bb):Prop:=∀b o,h.get? b=some o->o.cls=.type "tuple"->h'.get? b=some o
theorem TupKeep.trans(x:TupKeep a b)(y:TupKeep b c):TupKeep a c:=λd o e h=>y d o (x d o e h) h
def setOb(es:Array (Int×ab))(ep:Nat)(t:a6):Obj:={cls:=.type "set",dict:=none,data:=.set es ep t}
structure SetKd(prog:ax)(w:aK)(κ:Type) where
 is:bb->κ->ab->Prop
 I:bb->Addr->Array (Int×ab)->Nat->a6->Prop
 inj:∀{h:bb}{k k':κ}{v:ab},is h k v->is h k' v->k=k'
 obj:∀{h:bb}{a:Addr}{es:Array (Int×ab)}{ep:Nat}{t:a6},I h a es ep t->h.get? a=some (setOb es ep t)
 fits:∀{h:bb}{a:Addr}{es:Array (Int×ab)}{ep:Nat}{t:a6},I h a es ep t->t.fits es.size=true
 few:∀{h:bb}{a:Addr}{es:Array (Int×ab)}{ep:Nat}{t:a6}{ks:List κ},I h a es ep t->aZ (λ(e:Int×ab) k=>is h k e.2) es.toList ks->ks.Nodup->t.plain=true->es.size<=1
 fresh:∀{h:bb}{a:Addr}{led:Bool},h.get? a=some (setOb #[] 0 (.fresh 0 0 led))->I h a #[] 0 (.fresh 0 0 led)
 keepIs:∀{h h':bb}{k:κ}{v:ab},is h k v->TupKeep h h'->is h' k v
 keepI:∀{h h':bb}{a:Addr}{es:Array (Int×ab)}{ep:Nat}{t:a6},I h a es ep t->h'.get? a=h.get? a->TupKeep h h'->I h' a es ep t
 add:∀{A:aU}{E:ab->ag->Prop}{s:ag}{a:Addr}{es:Array (Int×ab)}{ep:Nat}{t:a6}{k:κ}{x:ab}{Q:Bool->ag->Prop},A.units<bN->I s.heap a es ep t->is s.heap k x->es.size+1<=300 ->
  (∀ h' tk es' ep' t' added,I h' a es' ep' t'->dj a s.heap h'->t'.led=t.led->s.toks<=tk ->
   ((added=false/\es'=es/\∃e∈es.toList,is s.heap k e.2)\/(added=true/\(∃hh,es'.toList.Perm ((hh,x)::es.toList))/\¬ ∃e∈es.toList,is s.heap k e.2))->Q added {s with heap:=h',toks:=tk}) ->
  aE (aF prog w) A (setAdd a x) Q E s
theorem aXs(ho:h.get? a=some (setOb es ep t))(sb:dj a h h'):TupKeep h h':=λb o e c=>by
 refine(sb.2 b ?_).trans e;rintro rfl;rw[ho] at e;have z:=(a7 e).symm;rw[z] at c;have B:=c;injection B with j
 exact absurd j (by decide)
section
variable{prog:ax}{w:aK}
theorem TK.keep(x:TK prog w h k v)(kp:TupKeep h h'):TK prog w h' k v:=by
 obtain⟨b,rfl,o,items,n,z,j,hd,hi⟩:=x;exact⟨b,rfl,o,items,n,kp b o z j,j,hd,hi⟩
theorem paired_mem{R:α->β->Prop}:∀{l:List α}{m:List β},aZ R l m->∀a∈l,∃b∈m,R a b
 |_,_,.nil,a,h=>nomatch h
 |_,_,.cons r t,a,h=>by
  rcases av.mp h with rfl|h
  ·exact⟨_,ai,r⟩
  ·obtain⟨b,j,q⟩:=paired_mem t a h;exact⟨b,ak _ j,q⟩
theorem paired_mem'{R:α->β->Prop}:∀{l:List α}{m:List β},aZ R l m->∀b∈m,∃a∈l,R a b
 |_,_,.nil,a,h=>nomatch h
 |_,_,.cons r t,a,h=>by
  rcases av.mp h with rfl|h
  ·exact⟨_,ai,r⟩
  ·obtain⟨b,j,q⟩:=paired_mem' t a h;exact⟨b,ak _ j,q⟩
theorem paired_perm{R:α->β->Prop}{l l':List α}(p:l'.Perm l):∀{m:List β},aZ R l m->∃m',m'.Perm m/\aZ R l' m':=by
 have gen:∀{l l':List α},l.Perm l'->∀{m:List β},aZ R l m->∃m',m'.Perm m/\aZ R l' m':=by
  intro l l' p
  induction p with
  |nil=>intro m h;cases h;exact⟨[],dJ _,.nil⟩
  |cons x _ J =>
   intro m h;cases h with
   |cons r t =>
    obtain⟨m',h1,h2⟩:=J t;exact⟨_,h1.cons _,.cons r h2⟩
  |swap x y l =>
   intro m h;cases h with
   |cons r t =>
    cases t with
    |cons D B=>exact⟨_,List.Perm.swap _ _ _,.cons D (.cons r B)⟩
  |trans _ _ z j =>
   intro m h;obtain⟨Y,a1,U⟩:=z h;obtain⟨G,a2,O⟩:=j U;exact⟨G,a2.trans a1,O⟩
 intro m h;exact gen p.symm h
theorem few_aux{R:α->β->Prop}{k0:β}{l:List α}{m:List β}(hp:aZ R l m)(h0:∀a∈l,R a k0)(inj:∀a b b',R a b->R a b'->b=b')(nd:m.Nodup):l.length<=1:=by
 cases hp with
 |nil=>exact Nat.zero_le _
 |cons z t1 =>
  cases t1 with
  |nil=>exact Nat.le_refl _
  |cons j G =>
   have D:=inj _ _ _ (h0 _ ai) z;have B:=inj _ _ _ (h0 _ (ak _ ai)) j
   have:=(bo.mp nd).1
   exact absurd (by rw[<- D,B];exact ai) this
theorem empty_el{P:Int×ab->Prop}:∀e∈(#[]).toList,P e:=λe he=>absurd he (by simp)
def tupKd(prog:ax)(w:aK):SetKd prog w (List Str) where
 is:=TK prog w
 I:=λh a es ep t=>SetAt h a es ep t/\ElT prog w h es.toList/\bZo prog w h es.toList t
 inj:=λa b=>a.inj b
 obj:=λx=>x.1.obj
 fits:=λx=>x.1.inv.fits
 few:=λ{h a es ep t ks} x hp nd hpl=>by
  have q:=few_aux hp (x.2.2 hpl) (λ_ _ _ r1 r2=>r1.inj r2) nd;simpa using q
 fresh:=λho=>⟨⟨ho,fresh_ok _ _ _⟩,empty_el,λ_=>empty_el⟩
 keepIs:=λx kp=>x.keep kp
 keepI:=λx e kp=>⟨⟨by rw[e];exact x.1.obj,x.1.inv⟩,λe he=>by
  obtain⟨k,q1,q2⟩:=x.2.1 e he;exact⟨k,q1.keep kp,q2⟩,λhp e he=>(x.2.2 hp e he).keep kp⟩
 add:=λ{A E s a es ep t k x Q} hu hI hx hn h=>by
  obtain⟨S,hel,hpl⟩:=hI;refine eXr S hu hel hpl hx hn λh' tk es' ep' t' added h1 h2 h3 h4 h5 h6=>?_;have kp:=aXs S.obj h2;refine h h' tk es' ep' t' added ⟨h1,?_,λhp e he=>(h3 hp e he).keep kp⟩ h2 h4 h5 ?_
  ·intro e he;rcases h6 with⟨_,rfl,_⟩|⟨_,hp,_⟩
   ·obtain⟨k,q1,q2⟩:=hel e he;exact⟨k,q1.keep kp,q2⟩
   ·rcases av.mp (hp.mem_iff.mp he) with q|q
    ·rw[q];exact⟨k,hx.keep kp,rfl⟩
    ·obtain⟨k,q1,q2⟩:=hel e q;exact⟨k,q1.keep kp,q2⟩
  ·rcases h6 with q|⟨q1,q2,q3⟩
   ·exact .inl q
   ·exact .inr ⟨q1,⟨_,q2⟩,q3⟩
theorem cQg(t:a6)(n:Nat):(t.orStandIn n).led=t.led:=by unfold a6.orStandIn;split <;> rfl
theorem addS(ho:s.heap.get? a=some (setOb es ep t))(hf:t.fits es.size=true)(hel:ElemsOf (strKind prog w) es.toList)
    (hpl:t.plain=true->es=#[]) (hx:(strKind prog w).is k x=true) (hn:es.size+1<=300)
    (h:∀ h' es' ep' t' added,h'.get? a=some (setOb es' ep' t') -> t'.fits es'.size=true -> ElemsOf (strKind prog w) es'.toList -> (t'.plain=true -> es'=#[]) -> dj a s.heap h' -> t'.led=t.led ->
      ((added=false/\es'=es/\∃e∈es.toList,(strKind prog w).is k e.2=true)\/(added=true/\es'.toList.Perm (((strKind prog w).hash k,x)::es.toList)/\¬ ∃e∈es.toList,(strKind prog w).is k e.2=true))->Q added {s with heap:=h'}) :
    aE (aF prog w) A (j8 a x ((strKind prog w).hash k)) Q E s:=by
  obtain⟨tok,rfl⟩:=fw hx;have hb:es.size<scanBound:=by unfold scanBound; lia
  refine bS (aa (dN ho rfl hf ?_));dsimp only;rw [byScan_of rfl hb hel];simp only [↓reduceIte];refine aa ?_;refine aa (dA ?_);refine aa (wpAny_setScan_of hx ho rfl hf hel ?_);cases hr:List.findIdx? (λe=>(strKind prog w).is k e.2) es.toList with
  |some j =>
    obtain⟨hj,hpj,_⟩:=List.findIdx?_eq_some_iff_getElem.mp hr;refine ad (ad ?_);exact h s.heap es ep t false ho hf hel hpl (kQ a s.heap) rfl (.inl ⟨rfl,rfl,es.toList[j],eS hj,hpj⟩)
  |none =>
    have hno:¬ ∃e∈es.toList,(strKind prog w).is k e.2=true:=by
      rintro⟨e,he,hp⟩;have:=List.findIdx?_eq_none_iff.mp hr e he;rw [hp] at this; exact Bool.noConfusion this
    have hgw:∀(b:Bool) {s1:ag}{Q':Unit->ag->Prop},Q' () s1->aE (aF prog w) A (match b with|true=>rule "set.scan.the-table-gave-way"|false=>pure ()) Q' E s1 :=
      λb s1 Q' hq =>by cases b <;> first|exact ad hq|exact dA hq
    have B:=layNew_perm t es ((strKind prog w).hash k) (.str k tok);have G:=layNew_fits t es ((strKind prog w).hash k) (.str k tok);have J:(layNew t es ((strKind prog w).hash k) (.str k tok)).2.1.led=t.led:=by
      unfold layNew
      split
      · exact cQg _ _
      · rfl
    generalize hL:layNew t es ((strKind prog w).hash k) (.str k tok)=L at B G J ⊢;obtain⟨es1,t1,O,gave⟩:=L;rw [cG] at B;have D:=B.trans (i9 _ _);have hel1:=(hel.push hx rfl).perm B;have hsz1:es1.size=es.size+1:=by
      have:=D.length_eq;simpa using this
    have hz1:es1.size<=sizeLine:=by rw [hsz1,bH]; lia
    refine aa (hgw _ ?_)
    have rest:∀ t2:a6,t2.fits es1.size=true -> t2.plain=false -> t2.led=t.led -> aE (aF prog w) A (do
        storeSet a es1 t2
        if (!O&&t2.tooFull)=true then do
            (match (jN t2 es1 (dO es1.size)).2.2 with|true =>rule "set.scan.the-table-gave-way"|false =>pure ())
            storeSet a (jN t2 es1 (dO es1.size)).1 (jN t2 es1 (dO es1.size)).2.1
            pure (some true)
          else pure (some true)) (λr s'=>aE (aF prog w) A (match r with|some added=>pure added|none=>setAddHashedIn a (.str k tok) ((strKind prog w).hash k) 99999) Q E s') E s:=by
      intro t2 q1 q2 q3;refine aa (h9 ho rfl ?_ hz1);have ho1:(s.heap.update a (d7 es1 t2)).get? a=some (setOb es1 (ep+1) t2):=by
        have:=cT (d7 es1 t2) ho (by rw [iz _ _ rfl]; rfl)
        rw [iz _ _ rfl] at this; exact this
      have Z:=cm s.heap a (d7 es1 t2)
      split
      · have hp:=relayAll_perm t2 es1 (dO es1.size)
        have hfr:=relayAll_fits t2 es1 (dO es1.size);have Y:(jN t2 es1 (dO es1.size)).2.1.led=t2.led/\(jN t2 es1 (dO es1.size)).2.1.plain=false:=by
          unfold jN
          split
          · rename_i t' order hq
            have : t'.led=t2.led/\t'.plain=t2.plain:=by
              unfold relaid laid at hq;cases hc:layClean (sizeAbove (dO es1.size)-1) (Array.map (·.1) es1) with
              |none =>rw [hc] at hq; cases hq
              |some ow =>rw [hc] at hq; cases hq; exact⟨rfl,rfl⟩
            dsimp only
            split
            · exact⟨this.1,this.2.trans q2⟩
            · exact⟨rfl,rfl⟩
          · exact⟨rfl,rfl⟩
        generalize hRl:jN t2 es1 (dO es1.size)=Rl at hp hfr Y ⊢;obtain⟨U,t3,gave2⟩:=Rl;have hsz2:U.size=es1.size:=by
          have:=hp.length_eq;simpa using this
        refine aa (hgw _ ?_);refine aa (h9 ho1 rfl ?_ (by rw [hsz2]; exact hz1))
        have ho2:((s.heap.update a (d7 es1 t2)).update a (d7 U t3)).get? a=some (setOb U (ep+1+1) t3):=by
          have:=cT (d7 U t3) ho1 (by rw [iz _ _ rfl]; rfl)
          rw [iz _ _ rfl] at this; exact this
        refine ad (ad ?_);exact h _ U _ t3 true ho2 hfr (hel1.perm hp) (λz =>by rw [Y.2] at z; cases z) (Z.trans (cm _ a _)) (Y.1.trans q3) (.inr ⟨rfl,hp.trans D,hno⟩)
      · refine ad (ad ?_)
        exact h _ es1 _ t2 true ho1 q1 hel1 (λz =>by rw [q2] at z; cases z) Z q3 (.inr ⟨rfl,D,hno⟩)
    split
    · refine aa ?_
      rw [hashByValue_scannable 8 rfl];refine ad ?_;exact rest _ (a6.fits_plain_off G) rfl J
    · rename_i hnp
      refine aa (ad ?_);simp only [↓reduceIte];exact rest t1 G (fg.mpr hnp) J
end
section
variable{prog:ax}{w:aK}
def strKd(prog:ax)(w:aK):SetKd prog w Str where
 is:=λ_ k v=>(eg prog w).is k v=true
 I:=λh a es ep t=>h.get? a=some (setOb es ep t)/\t.fits es.size=true/\ElemsOf (eg prog w) es.toList/\(t.plain=true->es=#[])
 inj:=λa b=>(eg prog w).inj _ _ _ a b
 obj:=λx=>x.1
 fits:=λx=>x.2.1
 few:=λx _ _ hp=>by rw[x.2.2.2 hp];exact Nat.zero_le _
 fresh:=λho=>⟨ho,rfl,empty_el,λ_=>rfl⟩
 keepIs:=λx _=>x
 keepI:=λx e _=>⟨by rw[e];exact x.1,x.2⟩
 add:=λ{A E s a es ep t k x Q} hu hI hx hn h=>by
  obtain⟨ho,hf,hel,hpl⟩:=hI;unfold setAdd;refine bS (aa ((eg prog w).pyHash hx ?_));exact addS (s:={ s with toks:=s.toks + 1 }) ho hf hel hpl hx hn λh' es' ep' t' added h1 h2 h3 h4 h5 h6 h7=>h h' _ es' ep' t' added ⟨h1,h2,h3,h4⟩ h5 h6 (Nat.le_succ _) (by
   rcases h7 with q|⟨q1,q2,q3⟩
   ·exact .inl q
   ·exact .inr ⟨q1,⟨_,q2⟩,q3⟩)
structure Mem{κ:Type}(D:SetKd prog w κ)(h:bb)(a:Addr)(done:List κ)(led:Bool)(ks:List κ):Prop where
 ex:∃es ep t,D.I h a es ep t/\t.led=led/\aZ (λ(e:Int×ab) k=>D.is h k e.2) es.toList ks
 nd:ks.Nodup
 mem:∀k,k∈ks↔k∈done
theorem Mem.keep{D:SetKd prog w κ}{done:List κ}{led:Bool}{ks:List κ}(M:Mem D h a done led ks)(e:h'.get? a=h.get? a)(kp:TupKeep h h'):Mem D h' a done led ks:=by
 obtain⟨es,ep,t,h1,h2,j⟩:=M.ex;exact⟨⟨es,ep,t,D.keepI h1 e kp,h2,L2.Paired.mapP j λ_ _ q=>D.keepIs q kp⟩,M.nd,M.mem⟩
theorem Mem.size{D:SetKd prog w κ}{done:List κ}{led:Bool}{ks:List κ}(M:Mem D h a done led ks):ks.length<=done.length :=
 M.nd.length_le_of_subset λk j=>(M.mem k).mp j
theorem addM{κ:Type}[DecidableEq κ](D:SetKd prog w κ){A:aU}{E:ab->ag->Prop}{s:ag}{a:Addr}{done:List κ}{led:Bool}{ks:List κ}{k:κ}{x:ab}{Q:Bool->ag->Prop}(hu:A.units<bN)(M:Mem D s.heap a done led ks)(hx:D.is s.heap k x)(hn:ks.length+1<=300)
  (h:∀h' tk ks',Mem D h' a (done++[k]) led ks'->dj a s.heap h'->TupKeep s.heap h'->s.toks<=tk->Q (decide (k∉ks)) {s with heap:=h',toks:=tk}) :
  aE (aF prog w) A (setAdd a x) Q E s:=by
 obtain⟨es,ep,t,h1,h2,U⟩:=M.ex;have hl:es.size=ks.length:=by have:=bL U;simpa using this
 refine D.add hu h1 hx (by lia) λh' tk G J t' added q1 q2 q3 q4 q5=>?_
 have kp:=aXs (D.obj h1) q2;have B:=L2.Paired.mapP U λ_ _ q=>D.keepIs q kp;have isin:(∃e∈es.toList,D.is s.heap k e.2)↔k∈ks:=by
  constructor
  ·rintro⟨e,he,q⟩;obtain⟨O,hk',q'⟩:=paired_mem U e he;rw[D.inj q q'];exact hk'
  ·intro j;obtain⟨e,he,q⟩:=paired_mem' U k j;exact⟨e,he,q⟩
 rcases q5 with⟨r1,Z,Y⟩|⟨r1,⟨hh,Z⟩,Y⟩
 ·have j:=isin.mp Y;have q:=h h' tk ks ⟨⟨G,J,t',q1,q3.trans h2,by rw[Z];exact B⟩,M.nd,λO=>by
   rw[M.mem O,aY,aJ];exact⟨.inl,λz=>z.elim id λz=>by rw[z];exact(M.mem k).mp j⟩⟩ q2 kp q4
  rw[decide_eq_false (λz=>z j)] at q;rw[r1];exact q
 ·have j:k∉ks:=λz=>Y (isin.mpr z);obtain⟨ks',p1,p2⟩:=paired_perm Z (.cons (D.keepIs hx kp) B);have q:=h h' tk ks' ⟨⟨G,J,t',q1,q3.trans h2,p2⟩,p1.nodup_iff.mpr (bo.mpr ⟨j,M.nd⟩),λO=>by
   rw[p1.mem_iff,av,aY,aJ,M.mem O];exact⟨λz=>z.symm,λz=>z.symm⟩⟩ q2 kp q4
  rw[decide_eq_true j] at q;rw[r1];exact q
theorem dJa{κ:Type}[DecidableEq κ](D:SetKd prog w κ){A:aU}{R:Result->ag->Prop}{I S l:Addr}{items:Array ab}{ks:List κ}{led:Bool}(hh:A.in1.handled=none)(hu:A.in1.units<bN)(hne:l≠I)(hSI:S≠I)(hSl:S≠l){cs:List κ}(hcs:∀k∈ks,k∈cs)(hn:cs.length+1<=300) :
  ∀(j i:Nat) (s:ag),items.size-i=j->i<=items.size->s.heap.IsListIter I l i->s.heap.IsList l items->aZ (λv k=>D.is s.heap k v) items.toList ks->(∃ms,Mem D s.heap S (ks.take i) led ms) ->
   (∀h' tk ms,Mem D h' S ks led ms->TupKeep s.heap h'->(∀b o,b≠S->b≠I->s.heap.get? b=some o->h'.get? b=some o)->R (.ok (.ret .none)) {s with heap:=h',toks:=tk}) ->
   fx (aF prog w) A (.builtin "set.update.loop" ⟨[.ref S,.ref I],[]⟩) R s:=by
 have itk:∀ {h h':bb} {i:Nat},h.IsListIter I l i->(∀ b o,b≠I->h.get? b=some o->h'.get? b=some o)->TupKeep h h':=λst k b o e c=>k b o (by
  rintro rfl;obtain⟨o',e',c',_⟩:=st;rw[e] at e';cases e';rw[c] at c';injection c' with c''
  exact absurd c'' (by decide)) e
 intro j
 induction j with
 |zero =>
  intro i s hj hi z hl O hM hR;have hin:i=items.size:=by lia
  subst hin;refine ci de ?_;rw[bJ cq _];refine aa (wpAny_pyNext_list_end hh z hl (by simp) λh' eb=>?_)
  have kp:=itk z λb o hb e=>eb b o hb e;obtain⟨ms,M⟩:=hM;have hlen:ks.length=items.size:=by have:=bL O;simpa using this.symm
  rw[bQ (by lia)] at M
  obtain⟨es,ep,t,h1,_⟩:=id M.ex;have hS:=D.obj h1;exact ad (hR h' s.toks ms (M.keep (by rw[hS];exact eb S _ hSI hS) kp) kp λb o _ hb e=>eb b o hb e)
 |succ j ih =>
  intro i s hj hi z hl O hM hR;have U:i<items.size:=by lia
  refine ci de ?_;rw[bJ cq _];refine aa (wpAny_pyNext_list_item z hl (x:=items[i]) (by simp[U]) λh1 st1 B=>?_)
  have G:=itk z λb o hb e=>(B.2 b hb).trans e;obtain⟨ms,M⟩:=hM;obtain⟨es,ep,t,q1,_⟩:=id M.ex;have hS:=D.obj q1;have M1:=M.keep (by rw[B.2 S hSI]) G
  have hlen:ks.length=items.size:=by have:=bL O;simpa using this.symm
  have hki:ks[i]?=some ks[i]:=af (by lia)
  have hx:D.is s.heap ks[i] items[i]:=by
   have gen:∀{l:List ab}{m:List κ},aZ (λv k=>D.is s.heap k v) l m->∀(n:Nat) (v:ab) (k:κ),l[n]?=some v->m[n]?=some k->D.is s.heap k v:=by
    intro l m O
    induction O with
    |nil=>intro n v k h;simp at h
    |cons r _ ih =>
     intro n v k h1 h2;cases n with
     |zero=>simp at h1 h2;subst h1;subst h2;exact r
     |succ n=>exact ih n v k (by simpa using h1) (by simpa using h2)
   exact gen O i _ _ (by simp[U]) hki
  refine aa (bS ?_);have hms:=M1.nd.length_le_of_subset λk hk=>hcs k (c6 ((M1.mem k).mp hk));refine addM D hu M1 (D.keepIs hx G) (by lia) λh2 tk ms' M2 J Z htk=>?_
  have hl2:h2.IsList l items:=by
   obtain⟨o,e,r⟩:=hl;exact⟨o,(J.2 l (cE hSl)).trans ((B.2 l hne).trans e),r⟩
  have st2:h2.IsListIter I l (i+1):=by
   obtain⟨o,e,r⟩:=st1;exact⟨o,(J.2 I (cE hSI)).trans e,r⟩
  refine ad ⟨dh cq _,ih (i+1) _ (by lia) U st2 hl2 (L2.Paired.mapP O λ_ _ q=>D.keepIs q (G.trans Z)) ⟨ms',?_⟩ λh' tk' Y a1 a2 a3=>?_⟩
  ·have et:ks.take (i+1)=ks.take i++[ks[i]]:=by rw[cz,hki];rfl
   rw[et];exact M2
  ·exact hR h' tk' Y a1 ((G.trans Z).trans a2) λb o hb1 hb2 e=>a3 b o hb1 hb2 ((J.2 b hb1).trans ((B.2 b hb2).trans e))
abbrev ledOf(w:aK):Bool:=!(w.params.followText "set-order")
theorem cZh(a:ab){Q1:ab->ag->Prop}
  (h:Q1 (.ref s.heap.objs.size) {s with heap:=s.heap.push (setOb #[] 0 (.fresh 0 0 (ledOf w)))}) :
  fx (aF prog w) A (.call (.builtin "set.__new__") ⟨[.type "set",a],[]⟩) (wants Q1 E) s:=by
 refine gN ?_;refine aa (ju (PySem.F.newCall_set_1 a) (ad ⟨dh ko _,ci PySem.F.entry_set_new ?_⟩));rw[bJ ko _];have j:=sub_set_self;obtain⟨B,g,d,z,os⟩:=s;wp_walk
 refine dF (ad ?_);simp only[newObj];refine aa (wpAny_alloc (ad ?_));exact ad h
end
section
variable{prog:ax}{w:aK}
theorem cXt{κ:Type}[DecidableEq κ](D:SetKd prog w κ){A:aU}{E:ab->ag->Prop}{s:ag}{l:Addr}{items:Array ab}{ks:List κ}{Q:ab->ag->Prop}
  (hh:A.handled=none) (hu:A.units+8<bN) (hl:s.heap.IsList l items) (hi:aZ (λv k=>D.is s.heap k v) items.toList ks) {cs:List κ}(hcs:∀k∈ks,k∈cs) (hb:cs.length+1<=300)
  (h:∀ (h':bb) (tk:Nat) ms,Mem D h' s.heap.objs.size ks (ledOf w) ms->TupKeep s.heap h' ->
   (∀b o,b<s.heap.objs.size->s.heap.get? b=some o->h'.get? b=some o)->Q (.ref s.heap.objs.size) {s with heap:=h',toks:=tk}) :
  aE (aF prog w) A (call (.type "set") [.ref l]) Q E s:=by
 obtain⟨c,tl,hmro⟩:=bG.mro;have hmade:=bG.made;have hsub:=bG.sub;refine wpAny_call (gN ?_);show aE _ _ (callAny (.type "set") _) _ _ _;refine ad ⟨Code.quiet_builtin _ (by decide +kernel),ci jO ?_⟩
 rw[Around.under_plain (weight_type_call_type "set" [.ref l] []) rfl];have h1:=bG.notType;have h2:=bG.canCreate;have hct:=j9 (.ref l)
 repeat (any_goals (first|assumption|wp_step))
 refine gn (cZh (.ref l) (E:=E) (Q1:=λobj s1=>obj=.ref s.heap.objs.size/\s1={s with heap:=s.heap.push (setOb #[] 0 (.fresh 0 0 (ledOf w)))}) ⟨rfl,rfl⟩) λr s1 hr=>?_
 cases r with
 |error e=>exact hr
 |ok fl =>
  cases fl with
  |ret obj =>
   obtain⟨rfl,rfl⟩:=hr;have hS:(s.heap.push (setOb #[] 0 (.fresh 0 0 (ledOf w)))).get? s.heap.objs.size=some (setOb #[] 0 (.fresh 0 0 (ledOf w))):=aq _ rfl;have hT:jE {s with heap:=s.heap.push (setOb #[] 0 (.fresh 0 0 (ledOf w)))} (.ref s.heap.objs.size) "set":=⟨_,hS,rfl⟩
   have hli:=bG.init.lookup;have hbi:=bG.init.bind (.ref s.heap.objs.size)
   repeat (any_goals (first|assumption|wp_step))
   refine gn (codeAny_call_builtin (R:=wants (λr s2=>r=.none/\∃ h' tk ms,s2={ s with heap:=h',toks:=tk }/\Mem D h' s.heap.objs.size ks (ledOf w) ms/\TupKeep s.heap h' /\
     (∀b o,b<s.heap.objs.size->s.heap.get? b=some o->h'.get? b=some o)) E) bG.init.plain ka (check_set_init_1 hT ?_)) λr2 s2 G=>?_
   ·obtain⟨ol,U,hcl,nl,hdl⟩:=hl;obtain⟨ocls,z,odata,j⟩:=ol;simp only at hcl hdl;subst hcl;subst hdl;have O:(s.heap.push (setOb #[] 0 (.fresh 0 0 (ledOf w)))).get? l=some {cls:=.type "list",dict:=z,data:=.seq items nl,slots:=j}:=ae _ U;have hsls:=PySem.F.sub_list_set;have hslf:=PySem.F.sub_list_frozenset;have hne:(db "list" ==db "dict")=false:=by decide
    have hl1:(s.heap.push (setOb #[] 0 (.fresh 0 0 (ledOf w)))).IsList l items:=⟨_,O,rfl,nl,rfl⟩;unfold cr.«set.__init__» noKeywords iN;generalize hPI:iu=PI;unfold setOb at *
    wp_walk
    subst hPI;refine fY hl1 ?_;refine aa (wpAny_runValue ?_);have Z:l<s.heap.objs.size:=aC U;have hh3:A.in1.in1.in1.handled=none:=by simp[hh]
    have hu3:A.in1.in1.in1.units<bN:=by show A.units+1+1+1<bN;lia
    have Y:l≠(s.heap.push {cls:=.type "set",dict:=none,data:=.set #[] 0 (.fresh 0 0 (ledOf w))}).objs.size:=by
     rw[cB];exact Nat.ne_of_lt (Nat.lt_succ_of_lt Z)
    have hSI:s.heap.objs.size≠(s.heap.push {cls:=.type "set",dict:=none,data:=.set #[] 0 (.fresh 0 0 (ledOf w))}).objs.size:=by
     rw[cB];exact Nat.ne_of_lt (Nat.lt_succ_self _)
    have kp:TupKeep s.heap ((s.heap.push {cls:=.type "set",dict:=none,data:=.set #[] 0 (.fresh 0 0 (ledOf w))}).push {cls:=.type "list_iterator",data:=.fields #[.ref l,.int 0 0]}):=λb o e _=>ae _ (ae _ e)
    have hget:((s.heap.push {cls:=.type "set",dict:=none,data:=.set #[] 0 (.fresh 0 0 (ledOf w))}).push {cls:=.type "list_iterator",data:=.fields #[.ref l,.int 0 0]}).get? s.heap.objs.size
       =some (setOb #[] 0 (.fresh 0 0 (ledOf w))):=ae _ hS
    refine dJa D hh3 hu3 Y hSI (cE (Nat.ne_of_lt Z)) hcs hb (items.size-0) 0 _ (by lia) (Nat.zero_le _) ⟨_,aq _ rfl,rfl,rfl⟩ (hl1.push _) (L2.Paired.mapP hi λ_ _ q=>D.keepIs q kp)
     ⟨[],⟨⟨#[],0,.fresh 0 0 (ledOf w),D.fresh hget,rfl,.nil⟩,eE,λk=>by simp⟩⟩ ?hR
    case hR =>
     intro h' tk' ms hM B J;show aE _ _ _ _ _ _;refine ad ?_;show aE _ _ (ret bZ) _ _ _;refine ad ⟨rfl,h',tk',ms,rfl,hM,kp.trans B,λb o hb e=>?_⟩;exact J b o (Nat.ne_of_lt hb) (by rw[cB];exact Nat.ne_of_lt (Nat.lt_succ_of_lt hb)) (ae _ (ae _ e))
   ·cases r2 with
    |error e=>exact G
    |ok fl2 =>
     cases fl2 with
     |ret r =>
      obtain⟨rfl,h',tk,ms,rfl,hM,B,J⟩:=G
      repeat (any_goals (first|assumption|wp_step))
      exact h _ _ _ hM B J
     |_=>exact G.elim
  |_=>exact hr.elim
theorem call_setK{κ:Type}[DecidableEq κ](D:SetKd prog w κ){A:aU}{E:ab->ag->Prop}{s:ag}{l:Addr}{items:Array ab}{ks:List κ}{Q:ab->ag->Prop}
  (hh:A.handled=none) (hu:A.units+8<bN) (hl:s.heap.IsList l items) (hi:aZ (λv k=>D.is s.heap k v) items.toList ks) (hb:items.size+1<=300)
  (h:∀ (h':bb) (tk:Nat) ms,Mem D h' s.heap.objs.size ks (ledOf w) ms->TupKeep s.heap h' ->
   (∀b o,b<s.heap.objs.size->s.heap.get? b=some o->h'.get? b=some o)->Q (.ref s.heap.objs.size) {s with heap:=h',toks:=tk}) :
  aE (aF prog w) A (call (.type "set") [.ref l]) Q E s :=
 cXt D hh hu hl hi (λ_ h=>h) (by have:=bL hi;simp at this;lia) h
end
section
variable{prog:ax}{w:aK}
theorem dQb{κ:Type}[DecidableEq κ](D:SetKd prog w κ){A:aU}{R:Result->ag->Prop}{I S l:Addr}{items:Array ab}{ks:List κ}{led:Bool}(hh:A.in1.handled=none)(hu:A.in1.units<bN)(hne:l≠I)(hSI:S≠I)(hSl:S≠l)(hn:items.size+1<=300) :
  ∀(j i:Nat) (s:ag),items.size-i=j->i<=items.size->s.heap.IsTupleIter I l i->s.heap.IsTuple l items->aZ (λv k=>D.is s.heap k v) items.toList ks->(∃ms,Mem D s.heap S (ks.take i) led ms) ->
   (∀h' tk ms,Mem D h' S ks led ms->TupKeep s.heap h'->(∀b o,b≠S->b≠I->s.heap.get? b=some o->h'.get? b=some o)->R (.ok (.ret .none)) {s with heap:=h',toks:=tk}) ->
   fx (aF prog w) A (.builtin "set.update.loop" ⟨[.ref S,.ref I],[]⟩) R s:=by
 have itk:∀ {h h':bb} {i:Nat},h.IsTupleIter I l i->(∀ b o,b≠I->h.get? b=some o->h'.get? b=some o)->TupKeep h h':=λst k b o e c=>k b o (by
  rintro rfl;obtain⟨o',e',c',_⟩:=st;rw[e] at e';cases e';rw[c] at c';injection c' with c''
  exact absurd c'' (by decide)) e
 intro j
 induction j with
 |zero =>
  intro i s hj hi z hl O hM hR;have hin:i=items.size:=by lia
  subst hin;refine ci de ?_;rw[bJ cq _];refine aa (wpAny_pyNext_tuple_end hh z hl (by simp) λh' eb=>?_)
  have kp:=itk z λb o hb e=>eb b o hb e;obtain⟨ms,M⟩:=hM;have hlen:ks.length=items.size:=by have:=bL O;simpa using this.symm
  rw[bQ (by lia)] at M
  obtain⟨es,ep,t,h1,_⟩:=id M.ex;have hS:=D.obj h1;exact ad (hR h' s.toks ms (M.keep (by rw[hS];exact eb S _ hSI hS) kp) kp λb o _ hb e=>eb b o hb e)
 |succ j ih =>
  intro i s hj hi z hl O hM hR;have U:i<items.size:=by lia
  refine ci de ?_;rw[bJ cq _];refine aa (wpAny_pyNext_tuple_item z hl (x:=items[i]) (by simp[U]) λh1 st1 B=>?_)
  have G:=itk z λb o hb e=>(B.2 b hb).trans e;obtain⟨ms,M⟩:=hM;obtain⟨es,ep,t,q1,_⟩:=id M.ex;have hS:=D.obj q1;have M1:=M.keep (by rw[B.2 S hSI]) G
  have hlen:ks.length=items.size:=by have:=bL O;simpa using this.symm
  have hki:ks[i]?=some ks[i]:=af (by lia)
  have hx:D.is s.heap ks[i] items[i]:=by
   have gen:∀{l:List ab}{m:List κ},aZ (λv k=>D.is s.heap k v) l m->∀(n:Nat) (v:ab) (k:κ),l[n]?=some v->m[n]?=some k->D.is s.heap k v:=by
    intro l m O
    induction O with
    |nil=>intro n v k h;simp at h
    |cons r _ ih =>
     intro n v k h1 h2;cases n with
     |zero=>simp at h1 h2;subst h1;subst h2;exact r
     |succ n=>exact ih n v k (by simpa using h1) (by simpa using h2)
   exact gen O i _ _ (by simp[U]) hki
  refine aa (bS ?_);refine addM D hu M1 (D.keepIs hx G) (by have:=M1.size;rw[aP] at this;lia) λh2 tk ms' M2 J Z htk=>?_
  have hl2:h2.IsTuple l items:=by
   obtain⟨o,e,r⟩:=hl;exact⟨o,(J.2 l (cE hSl)).trans ((B.2 l hne).trans e),r⟩
  have st2:h2.IsTupleIter I l (i+1):=by
   obtain⟨o,e,r⟩:=st1;exact⟨o,(J.2 I (cE hSI)).trans e,r⟩
  refine ad ⟨dh cq _,ih (i+1) _ (by lia) U st2 hl2 (L2.Paired.mapP O λ_ _ q=>D.keepIs q (G.trans Z)) ⟨ms',?_⟩ λh' tk' Y a1 a2 a3=>?_⟩
  ·have et:ks.take (i+1)=ks.take i++[ks[i]]:=by rw[cz,hki];rfl
   rw[et];exact M2
  ·exact hR h' tk' Y a1 ((G.trans Z).trans a2) λb o hb1 hb2 e=>a3 b o hb1 hb2 ((J.2 b hb1).trans ((B.2 b hb2).trans e))
theorem call_setT{κ:Type}[DecidableEq κ](D:SetKd prog w κ){A:aU}{E:ab->ag->Prop}{s:ag}{l:Addr}{items:Array ab}{ks:List κ}{Q:ab->ag->Prop}
  (hh:A.handled=none) (hu:A.units+8<bN) (hl:s.heap.IsTuple l items) (hi:aZ (λv k=>D.is s.heap k v) items.toList ks) (hb:items.size+1<=300)
  (h:∀ (h':bb) (tk:Nat) ms,Mem D h' s.heap.objs.size ks (ledOf w) ms->TupKeep s.heap h' ->
   (∀b o,b<s.heap.objs.size->s.heap.get? b=some o->h'.get? b=some o)->Q (.ref s.heap.objs.size) {s with heap:=h',toks:=tk}) :
  aE (aF prog w) A (call (.type "set") [.ref l]) Q E s:=by
 obtain⟨c,tl,hmro⟩:=bG.mro;have hmade:=bG.made;have hsub:=bG.sub;refine wpAny_call (gN ?_);show aE _ _ (callAny (.type "set") _) _ _ _;refine ad ⟨Code.quiet_builtin _ (by decide +kernel),ci jO ?_⟩
 rw[Around.under_plain (weight_type_call_type "set" [.ref l] []) rfl];have h1:=bG.notType;have h2:=bG.canCreate;have hct:=j9 (.ref l)
 repeat (any_goals (first|assumption|wp_step))
 refine gn (cZh (.ref l) (E:=E) (Q1:=λobj s1=>obj=.ref s.heap.objs.size/\s1={s with heap:=s.heap.push (setOb #[] 0 (.fresh 0 0 (ledOf w)))}) ⟨rfl,rfl⟩) λr s1 hr=>?_
 cases r with
 |error e=>exact hr
 |ok fl =>
  cases fl with
  |ret obj =>
   obtain⟨rfl,rfl⟩:=hr;have hS:(s.heap.push (setOb #[] 0 (.fresh 0 0 (ledOf w)))).get? s.heap.objs.size=some (setOb #[] 0 (.fresh 0 0 (ledOf w))):=aq _ rfl;have hT:jE {s with heap:=s.heap.push (setOb #[] 0 (.fresh 0 0 (ledOf w)))} (.ref s.heap.objs.size) "set":=⟨_,hS,rfl⟩
   have hli:=bG.init.lookup;have hbi:=bG.init.bind (.ref s.heap.objs.size)
   repeat (any_goals (first|assumption|wp_step))
   refine gn (codeAny_call_builtin (R:=wants (λr s2=>r=.none/\∃ h' tk ms,s2={ s with heap:=h',toks:=tk }/\Mem D h' s.heap.objs.size ks (ledOf w) ms/\TupKeep s.heap h' /\
     (∀b o,b<s.heap.objs.size->s.heap.get? b=some o->h'.get? b=some o)) E) bG.init.plain ka (check_set_init_1 hT ?_)) λr2 s2 G=>?_
   ·obtain⟨ol,U,hcl,nl,hdl⟩:=hl;obtain⟨ocls,z,odata,j⟩:=ol;simp only at hcl hdl;subst hcl;subst hdl;have O:(s.heap.push (setOb #[] 0 (.fresh 0 0 (ledOf w)))).get? l=some {cls:=.type "tuple",dict:=z,data:=.seq items nl,slots:=j}:=ae _ U;have hsls:=PySem.F.sub_tuple_set;have hslf:=PySem.F.sub_tuple_frozenset;have hne:(db "tuple" ==db "dict")=false:=by decide
    have hl1:(s.heap.push (setOb #[] 0 (.fresh 0 0 (ledOf w)))).IsTuple l items:=⟨_,O,rfl,nl,rfl⟩;unfold cr.«set.__init__» noKeywords iN;generalize hPI:iu=PI;unfold setOb at *
    wp_walk
    subst hPI;refine fK hl1 ?_;refine aa (wpAny_runValue ?_);have Z:l<s.heap.objs.size:=aC U;have hh3:A.in1.in1.in1.handled=none:=by simp[hh]
    have hu3:A.in1.in1.in1.units<bN:=by show A.units+1+1+1<bN;lia
    have Y:l≠(s.heap.push {cls:=.type "set",dict:=none,data:=.set #[] 0 (.fresh 0 0 (ledOf w))}).objs.size:=by
     rw[cB];exact Nat.ne_of_lt (Nat.lt_succ_of_lt Z)
    have hSI:s.heap.objs.size≠(s.heap.push {cls:=.type "set",dict:=none,data:=.set #[] 0 (.fresh 0 0 (ledOf w))}).objs.size:=by
     rw[cB];exact Nat.ne_of_lt (Nat.lt_succ_self _)
    have kp:TupKeep s.heap ((s.heap.push {cls:=.type "set",dict:=none,data:=.set #[] 0 (.fresh 0 0 (ledOf w))}).push {cls:=.type "tuple_iterator",data:=.fields #[.ref l,.int 0 0]}):=λb o e _=>ae _ (ae _ e)
    have hget:((s.heap.push {cls:=.type "set",dict:=none,data:=.set #[] 0 (.fresh 0 0 (ledOf w))}).push {cls:=.type "tuple_iterator",data:=.fields #[.ref l,.int 0 0]}).get? s.heap.objs.size
       =some (setOb #[] 0 (.fresh 0 0 (ledOf w))):=ae _ hS
    refine dQb D hh3 hu3 Y hSI (cE (Nat.ne_of_lt Z)) hb (items.size-0) 0 _ (by lia) (Nat.zero_le _) ⟨_,aq _ rfl,rfl,rfl⟩ (hl1.push _) (L2.Paired.mapP hi λ_ _ q=>D.keepIs q kp)
     ⟨[],⟨⟨#[],0,.fresh 0 0 (ledOf w),D.fresh hget,rfl,.nil⟩,eE,λk=>by simp⟩⟩ ?hR
    case hR =>
     intro h' tk' ms hM B J;show aE _ _ _ _ _ _;refine ad ?_;show aE _ _ (ret bZ) _ _ _;refine ad ⟨rfl,h',tk',ms,rfl,hM,kp.trans B,λb o hb e=>?_⟩;exact J b o (Nat.ne_of_lt hb) (by rw[cB];exact Nat.ne_of_lt (Nat.lt_succ_of_lt hb)) (ae _ (ae _ e))
   ·cases r2 with
    |error e=>exact G
    |ok fl2 =>
     cases fl2 with
     |ret r =>
      obtain⟨rfl,h',tk,ms,rfl,hM,B,J⟩:=G
      repeat (any_goals (first|assumption|wp_step))
      exact h _ _ _ hM B J
     |_=>exact G.elim
  |_=>exact hr.elim
end
end ST
set_option maxHeartbeats 1000000
namespace L2
open PySem PySem.Spec PyProof.Rows
variable{α β:Type}
theorem dQc(p:aZ (dB H) xs bs)(r:Vals xs us){i:Nat}{v:ab}(h:us[i]?=some v):∃b,bs[i]?=some b/\v=.bool b:=by
 have hl:=r.length;have hi:i<xs.length:=by
  rcases Nat.lt_or_ge i us.length with z|z
  ·lia
  ·rw[cC z] at h;cases h
 obtain⟨b,e,D⟩:=Paired.get' p (af hi);obtain⟨u,eu,B⟩:=r.get (af hi);rw[h] at eu;cases eu;have j:=D;rw[j] at B;exact⟨b,e,B⟩
theorem cZi{h h':bb}(hk:∀b x,b∉[h.objs.size]->(h.push o).get? b=some x->h'.get? b=some x):∀b x,h.get? b=some x->h'.get? b=some x:=λb x e =>
 hk b x (λz=>by have:=aJ.mp z;subst this;exact Nat.lt_irrefl _ (aC e)) (ae _ e)
theorem cXu(bs:List Bool):∀n,n=bs.length->((a4 n).all λi=>(bs[i]?).getD true)=bs.all id:=by
 rintro n rfl;rw[dX,bI,bI];refine⟨λh b z=>?_,λh i hi=>?_⟩
 ·obtain⟨i,hi,rfl⟩:=bd z
  have:=h i (bf.mpr hi)
  rwa [af hi] at this
 ·have j:=bf.mp hi;rw[af j];exact h _ (eS j)
theorem cXv(bs:List Bool):∀n,n=bs.length->((a4 n).any λi=>(bs[i]?).getD false)=bs.any id:=by
 rintro n rfl;rw[dX,jP,jP];refine⟨λ⟨i,hi,h⟩=>?_,λ⟨b,z,h⟩=>?_⟩
 ·have j:=bf.mp hi;rw[af j] at h;exact⟨_,eS j,h⟩
 ·obtain⟨i,hi,rfl⟩:=bd z;exact⟨i,bf.mpr hi,by rw[af hi];exact h⟩
section
variable{X:Cx}
theorem dQd(hc:X.calm=true):CallR X (.builtin "all") (λxs H Q=>∃x bs,xs=[x]/\dL X.K dB H x bs/\Q (.bl (bs.all id)) H):=by
 intro pins s σ H xs us Q I r h;obtain⟨x,bs,rfl,⟨a,ys,rfl,G,p⟩,q⟩:=h;obtain⟨u,rfl,rx⟩:=aX3 r;cases rx;obtain⟨j,z,pl,_⟩:=I.list G;obtain⟨o,J,_⟩:=id pl.isList;refine PySem.call_all_walk (fY pl.isList ⟨_,_,_,_,_,_,λi=>(bs[i]?).getD true,rfl,PySem.Walks.list (by have:=I.ok.hd hc;simp[this]) _ a (Nat.ne_of_lt (aC J)) j.toArray,⟨⟨_,aq _ rfl,rfl,rfl⟩,pl.isList.push _⟩,λi v s' Y Z U B=>?_,λh' D O=>?_⟩)
 ·obtain⟨b,e,rfl⟩:=dQc p z (by simpa using U)
  simp only[e,Option.getD_some] at B;exact cU B
 ·rw[cXu bs _ (by rw[ay,<- z.length,p.length])]
  exact⟨.bl _,H,I.kept (cZi O),rfl,q⟩
theorem dQe(hc:X.calm=true):CallR X (.builtin "any") (λxs H Q=>∃x bs,xs=[x]/\dL X.K dB H x bs/\Q (.bl (bs.any id)) H):=by
 intro pins s σ H xs us Q I r h;obtain⟨x,bs,rfl,⟨a,ys,rfl,G,p⟩,q⟩:=h;obtain⟨u,rfl,rx⟩:=aX3 r;cases rx;obtain⟨j,z,pl,_⟩:=I.list G;obtain⟨o,J,_⟩:=id pl.isList;refine PySem.call_any_walk (fY pl.isList ⟨_,_,_,_,_,_,λi=>(bs[i]?).getD false,rfl,PySem.Walks.list (by have:=I.ok.hd hc;simp[this]) _ a (Nat.ne_of_lt (aC J)) j.toArray,⟨⟨_,aq _ rfl,rfl,rfl⟩,pl.isList.push _⟩,λi v s' Y Z U B=>?_,λh' D O=>?_⟩)
 ·obtain⟨b,e,rfl⟩:=dQc p z (by simpa using U)
  simp only[e,Option.getD_some] at B;exact cU B
 ·rw[cXv bs _ (by rw[ay,<- z.length,p.length])]
  exact⟨.bl _,H,I.kept (cZi O),rfl,q⟩
def szO(a:Addr)(n:Nat):HO:=.ext λh=>∃es ep t,h.get? a=some (ST.setOb es ep t)/\t.fits es.size=true/\es.size=n
def SzOk(ds:List α)(n:Nat):Prop:=n<=ds.length/\(n=ds.length↔ds.Nodup)
theorem aJt[DecidableEq α]:∀(ds ms:List α),ms.Nodup->ms⊆ds->ds.length<=ms.length->ds.Nodup
 |[],_,_,_,_=>eE
 |x::xs,ms,nd,sub,le=>by
  have B:x∉xs:=λB=>by
   have:ms⊆xs:=λk D=>by
    rcases av.mp (sub D) with rfl|z
    ·exact B
    ·exact z
   have:=nd.length_le_of_subset this
   simp only[az] at le;lia
  refine bo.mpr ⟨B,aJt xs (ms.erase x) (nd.erase x) (λk D=>?_) ?_⟩
  ·have j:=(List.Nodup.mem_erase_iff nd).mp D;exact(av.mp (sub j.2)).resolve_left j.1
  ·simp only[az] at le
   have:=List.length_erase (a:=x) (l:=ms)
   split at this <;> lia
theorem dQf[DecidableEq α]{ds ms:List α}(nd:ms.Nodup)(h:∀k,k∈ms↔k∈ds):SzOk ds ms.length:=by
 have sub:=λk z=>(h k).mp z;have le:=nd.length_le_of_subset sub;refine⟨le,λe=>?_,λj=>Nat.le_antisymm le (j.length_le_of_subset λk z=>(h k).mpr z)⟩;exact aJt ds ms nd sub (by lia)
theorem dQg{K:Fg}(p:aZ (dS H) xs k)(r:Vals xs its)(t:gE h b its.toArray):ST.TK P w h k (.ref b):=by
 obtain⟨o,z,B,n,hd⟩:=t;refine⟨b,rfl,o,its.toArray,n,z,B,hd,?_⟩;have go:∀{xs:List V}{its:List ab}{k:List Str},aZ (dS H) xs k->Vals xs its->ItemsAre (eg P w) k its:=by
  intro xs its k p r
  induction p generalizing its with
  |nil=>cases r;first|exact trivial|exact .nil
  |cons e _ j =>
   cases r with
   |cons r t =>
    cases e;obtain⟨D,rfl⟩:=r
    first
     |exact⟨by simp[eg,eO],j t⟩
     |exact .cons (by simp[eg,eO]) (j t)
 exact go p r
theorem fXk{σ:St}(I:Inv X pins σ H s):∀{xs:List V}{us:List ab}{ds:List (List Str)},aZ (dT X.K dS H) xs ds->Vals xs us->aZ (λv k=>ST.TK P w s.heap k v) us ds
 |_,_,_,.nil,.nil=>.nil
 |_,_,_,.cons p q,.cons r t=>by
  refine .cons ?_ (fXk I q t);obtain⟨b,ys,rfl,D,pp⟩:=p;cases r;obtain⟨B,z,j,_⟩:=I.tuple D;exact dQg (K:=X.K) pp z j
theorem eQr:∀{xs:List V}{us:List ab}{ds:List Str},aZ (dS H) xs ds->Vals xs us->aZ (λv k=>(ST.strKd P w).is h k v) us ds
 |_,_,_,.nil,.nil=>.nil
 |_,_,_,.cons p q,.cons r t=>by
  refine .cons ?_ (eQr q t);cases p;obtain⟨j,rfl⟩:=r;unfold ST.strKd;simp[eg,eO]
theorem eQs{κ:Type}[DecidableEq κ]{pins:List (Addr×Obj)}{σ:St}{H:Hp}{s:ag}{Q:VK}{D:ST.SetKd X.prog X.w κ}{ds:List κ}(I:Inv X pins σ H s)(q:∀p n,H p=none->SzOk ds n->Q (.ref p) (upd H p (szO p n))){h':bb}{tk:Nat}{ms:List κ}{led:Bool}(M:ST.Mem D h' s.heap.objs.size ds led ms)
  (hk:∀b o,b<s.heap.objs.size->s.heap.get? b=some o->h'.get? b=some o):EP X pins σ Q (.ref s.heap.objs.size) {s with heap:=h',toks:=tk}:=by
 obtain⟨es,ep,t,j,_,J⟩:=M.ex;have hl:es.size=ms.length:=by have:=bL J;simpa using this
 refine⟨.ref s.heap.objs.size,_,I.laid (λb o e=>hk b o (aC e) e) (Nat.le_refl _) ?_,rfl,q _ _ (I.hok.fresh (Nat.le_refl _)) (dQf M.nd M.mem)⟩;refine⟨⟨es,ep,t,D.obj j,D.fits j,hl⟩,⟨_,D.obj j⟩,?_⟩;rintro h1 h2 ⟨B,G,t',g,f,z⟩ k;exact⟨B,G,t',k _ g,f,z⟩
theorem cXw(hc:X.calm=true)(hu:X.A.units+8<bN):CallR X (.type "set") (λxs H Q=>∃x ds,xs=[x]/\dT X.K (dT X.K dS) H x ds/\ds.length+1<=300/\∀p n,H p=none->SzOk ds n->Q (.ref p) (upd H p (szO p n))):=by
 intro pins s σ H xs us Q I r h;obtain⟨x,ds,rfl,⟨a,ys,rfl,B,p⟩,D,q⟩:=h;obtain⟨u,rfl,rx⟩:=aX3 r;cases rx;obtain⟨z,j,pl,_⟩:=I.tuple B;exact ST.call_setT (ST.tupKd X.prog X.w) (I.ok.hd hc) hu pl (fXk I p j) (by rw[ay,<- j.length,p.length];exact D) λh' J ms M _ G=>eQs I q M G
theorem cXx(hc:X.calm=true)(hu:X.A.units+8<bN):CallR X (.type "set") (λxs H Q=>∃x ds,xs=[x]/\dL X.K dS H x ds/\ds.length+1<=300/\∀p n,H p=none->SzOk ds n->Q (.ref p) (upd H p (szO p n))):=by
 intro pins s σ H xs us Q I r h;obtain⟨x,ds,rfl,⟨a,ys,rfl,B,p⟩,D,q⟩:=h;obtain⟨u,rfl,rx⟩:=aX3 r;cases rx;obtain⟨z,j,pl,_⟩:=I.list B;exact ST.call_setK (ST.strKd X.prog X.w) (I.ok.hd hc) hu pl.isList (eQr p j) (by rw[ay,<- j.length,p.length];exact D) λh' J ms M _ G=>eQs I q M G
theorem dQh:CallR X (.builtin "len") (λxs H Q=>∃p n,xs=[.ref p]/\H p=some (szO p n)/\n<1000000/\Q (.int n) H):=by
 intro pins s σ H xs us Q I r h;obtain⟨p,n,rfl,j,B,q⟩:=h;obtain⟨u,rfl,rx⟩:=aX3 r;cases rx;obtain⟨⟨es,ep,t,g,f,z⟩,_⟩:=I.hok p _ j;refine call_len_set g ⟨rfl,rfl,rfl⟩ rfl f (by rw[z];lia) ⟨.int n,H,I.tok _,⟨_,by rw[z]⟩,q⟩
end
end L2
set_option maxHeartbeats 4000000
namespace L2
open PySem PySem.Spec PyProof.Rows
section
variable{prog:ax}{w:aK}{A:aU}{E:ab->ag->Prop}{s:ag}
theorem eXs(hit:s.heap.IsTupleIter it t i)(ht:s.heap.IsTuple t items)(hx:items[i]?=some x)
  (hQ:∀h',h'.IsTupleIter it t (i+1)->dj it s.heap h'->Q x {s with heap:=h'}):aE (aF prog w) A (jo (.ref it)) Q E s:=by
 obtain⟨o,j,D,hd⟩:=id hit;obtain⟨ol,z,_,nl,B⟩:=ht;have ne:=bh;refine aa (cN hit.typeIs F.slot_tuple_iterator_next (b9 F.slot_tuple_iterator_next hit.typeIs F.entry_tuple_iterator_next ?_ (F.args_tuple_iterator_next_1 _)));refine aa (m:=field (.ref it) 0) (ew j hd rfl ?_);refine(if_neg ne).symm▸(aa (ew j hd rfl ?_));refine aa (dM z B ?_);simp only[cO,hx];refine aa (wpAny_setField j hd (by simp) (ad ⟨x,rfl,ad (hQ _ ⟨_,cT _ j (Obj.isFreed_of_fields (Obj.data_mapFields hd _)),(Obj.cls_mapFields ..).trans D,?_⟩ (cm ..))⟩))
 rw[Obj.data_mapFields hd];simp[er]
theorem eQt(hh:A.handled=none)(hit:s.heap.IsTupleIter it t i)(ht:s.heap.IsTuple t items)(hx:items[i]?=none)
  (hE:∀h' e,bb.ExtBut it s.heap h'->(∃o,h'.get? e=some o/\o.cls=.type "StopIteration")->E (.ref e) {s with heap:=h'}):aE (aF prog w) A (jo (.ref it)) Q E s:=by
 obtain⟨o,z,D,hd⟩:=id hit;obtain⟨ol,j,_,nl,B⟩:=ht;have ne:=bh;refine aa (cN hit.typeIs F.slot_tuple_iterator_next (b9 F.slot_tuple_iterator_next hit.typeIs F.entry_tuple_iterator_next ?_ (F.args_tuple_iterator_next_1 _)));refine aa (m:=field (.ref it) 0) (ew z hd rfl ?_);refine(if_neg ne).symm▸(aa (ew z hd rfl ?_));refine aa (dM j B ?_);simp only[cO,hx];refine aa (dA (aa (wpAny_setField z hd (by simp) (aa ?_))))
 simp only[newExc,newTuple];refine aa (bi (aa (ju (by first|rfl|(simp only[jd];rfl)) (bi ?_ (by size_fits)))) (by size_fits))
 simp only[raiseNew];refine aa (wpAny_handled ?_)
 first|rw[hh]|rw[hh]
 exact aa (ad (wpAny_throw (hE _ _ (((cm ..).extBut.push _).push _) ⟨_,aq _ rfl,rfl⟩)))
theorem dQi(hh:A.handled=none)(it l:Addr)(hne:l≠it)(items:Array ab):Draws prog w A it [it,l] items.size (λi v=>items[i]?=some v) (λi h=>h.IsTupleIter it l i/\h.IsTuple l items) where
 live:=λ_ _ st=>let ⟨o,z,_⟩:=st.1;⟨o,z⟩
 frame:=λ_ _ _ st D=>⟨let ⟨o,z,r⟩:=st.1;⟨o,D it (by simp) o z,r⟩,let ⟨o,z,r⟩:=st.2;⟨o,D l (by simp) o z,r⟩⟩
 item:=λi s Q E hi st G=>eXs st.1 st.2 (x:=items[i]) (by simp[hi]) λh' B j=>G _ h' s.toks (by simp[hi]) ⟨B,st.2.extBut j.extBut hne⟩ j
 done:=λs Q E st J=>eQt hh st.1 st.2 (by simp) J
theorem fXl(l:Addr)(items:Array ab)(n:Nat)(dct:Option Addr)(sl:Array (Option ab)) :
  Meets (cr.«enumerate.__new__» ⟨[.type "enumerate",.ref l],[]⟩) (λ_ R s=>s.heap.get? l=some { cls:=.type "tuple",dict:=dct,data:=.seq items n,slots:=sl } /\
   R (.ok (.ret (.ref (s.heap.push {cls:=.type "tuple_iterator",data:=.fields #[.ref l,.int 0 0]}).objs.size)))
    {s with heap:=(s.heap.push {cls:=.type "tuple_iterator",data:=.fields #[.ref l,.int 0 0]}).push {cls:=.type "enumerate",data:=.fields #[.none,.bool false,.ref s.heap.objs.size,er 0,.none,.none]}}) :=
 .of_wp λprog w A R s h=>by
  obtain⟨D,g,d,B,os⟩:=s;obtain⟨hl,h⟩:=h;have j:=sub_enumerate;have z:bb.IsTuple (ag.heap ⟨D,g,d,B,os⟩) l items:=⟨_,hl,rfl,n,rfl⟩
  wp_walk using bu hl
  refine wpAny_stack_any λst=>ad ?_
  split
  ·rename_i c _ _ _ _ _;cases (c==db "enumerate") <;>
   ·wp_walk using bu hl,fK z
    exact⟨_,rfl,h⟩
  ·wp_walk using bu hl,fK z
   exact⟨_,rfl,h⟩
theorem eXt(hT:s.heap.IsTuple l items)
  (h:∀h',IsEnum h' (s.heap.objs.size+1) s.heap.objs.size 0 .none->h'.IsTupleIter s.heap.objs.size l 0->(∀b o,s.heap.get? b=some o->h'.get? b=some o)->Q (.ref (s.heap.objs.size+1)) {s with heap:=h'}) :
  aE (aF prog w) A (call (.type "enumerate") [.ref l]) Q E s:=by
 obtain⟨⟨c,B,dt,sl⟩,hl,z,n,hd⟩:=hT;replace z:=z;replace hd:=hd;subst z hd;refine callType_new F.called_enumerate (by decide) (F.typeCall_enumerate_1 _) (F.newCall_enumerate_1 _) (λobj=>F.args_object_init_2 obj _) F.entry_enumerate_new (fXl l items n B sl) ⟨hl,?_⟩
 generalize j:({cls:=.type "tuple_iterator",data:=.fields #[.ref l,.int 0 0]}:Obj)=o1;have D:(s.heap.push o1).objs.size=s.heap.objs.size+1:=cB ..;have he:=aq (s.heap.push o1) (o:={cls:=.type "enumerate",data:=.fields #[.none,.bool false,.ref s.heap.objs.size,er 0,.none,.none]}) rfl;have hi:(s.heap.push o1).get? s.heap.objs.size=some o1:=aq _ (by rw[<- j];rfl)
 rw[D] at he ⊢;exact⟨⟨_,he,rfl⟩,h _ he ⟨o1,ae _ hi,by rw[<- j],by rw[<- j];rfl⟩ λb o x=>ae _ (ae _ x)⟩
end
def Ite(K:Fg)(a:Addr):It:=⟨λi H=>∃xs x,SqT K H a xs/\xs[i]?=some x,λi H x H'=>∃p y,H p=none/\x=.ref p/\H'=upd H p (.tup [.int i,y])/\∀xs,SqT K H a xs->xs[i]?=some y,λi H=>∃xs,SqT K H a xs/\xs.length<=i⟩
theorem eXu{K:Fg}(a it e:Addr)(hei:e≠it)(hae:a≠e)(hai:a≠it):Turn P w K (.Tuple elts x1 pos) (Ite K a) [e,it] e (λi h=>(∃old,IsEnum h e it i old)/\h.IsTupleIter it a i) where
 mem:=by simp
 obj:=λi h st b B=>by
  obtain⟨⟨old,he⟩,o,U,hc,hd⟩:=st;rcases av.mp B with rfl|B
  ·exact⟨_,he,λv z=>by cases z⟩
  ·have:=aJ.mp B
   subst this;exact⟨o,U,λv z=>by rw[hd] at z;cases z⟩
 keep:=λi h h' st k=>by
  obtain⟨⟨old,he⟩,o,U,r⟩:=st;exact⟨⟨old,k e (by simp) _ he⟩,o,k it (by simp) _ U,r⟩
 item:=by
  intro X hP hw hK hc i pins s σ H E I hf st hg;subst hP hw hK;obtain⟨xs,x,hq,hx⟩:=hg;obtain⟨its,rv,p,hz⟩:=I.tuple hq;obtain⟨u,hu,ru⟩:=rv.get hx;obtain⟨⟨old,he⟩,G⟩:=st;have hi:i<its.toArray.size:=by
   rcases Nat.lt_or_ge i its.toArray.size with z|z
   ·exact z
   ·rw[ay] at z;rw[cC z] at hu;cases hu
  have hh:X.A.in1.handled=none:=by have:=I.ok.hd hc;simp[this]
  have hT:=p;refine wpAny_pyNext_enum_itemD (dQi hh it a hai its.toArray) he ⟨G,hT⟩ hi hei (by simp;exact⟨hei,λz=>hae z.symm⟩) λy h' Z hy U hs' hT' hsz hk=>⟨_,rfl,?_⟩
  have hy':y=u:=by
   have:its[i]?=some y:=by simpa using hy
   rw[hu] at this;exact(a7 this).symm
  subst hy';refine wpAny_letOwnedTupleGo_enum U λh2 he2 O=>?_;have fe:=hf e (by simp)
  have fi:=hf it (by simp)
  have kk:=λb o n1 n2 g=>(O.2 b n1).trans (hk b o n1 n2 g);have hel:=aC he;have j:=I.hok.fresh (Nat.le_refl _);have nT:∀b o,s.heap.get? b=some o->b≠s.heap.objs.size:=λb o g=>Nat.ne_of_lt (aC g);have nH:∀b u,H b=some u->b≠e/\b≠it:=λb u g=>⟨λz=>(by rw[z,fe.1] at g;cases g),λz=>(by rw[z,fi.1] at g;cases g)⟩
  have J:=(O.2 _ (Nat.ne_of_gt hel)).trans hT';have hok:HOk X.prog X.w (upd H s.heap.objs.size (.tup [.int i,x])) h2:=λb ob g=>by
   by_cases B:b=s.heap.objs.size
   ·subst B;rw[aQ6] at g;cases g;refine⟨by rw[bH];show 2<=_;decide,[.int i Z,y],.cons ⟨Z,rfl⟩ (.cons ru .nil),⟨_,J,rfl,0,rfl⟩,λo e=>by rw[J] at e;cases e;rfl⟩
   ·rw[upd_ne B] at g;refine(I.hok b ob g).stay (λc w' D q=>?_) (λc q=>?_) λc ys q=>?_
    ·rcases D with rfl|D
     ·exact kk _ _ (nH _ _ g).1 (nH _ _ g).2 q
     ·exact kk _ _ (nH _ _ D).1 (nH _ _ D).2 q
    ·rw[upd_ne (aQf q j)];exact q
    ·rw[upd_ne (aQf q j)];exact q
  have un:Un (frs X.stack) [e,it] H (upd H s.heap.objs.size (.tup [.int i,x])) s.heap h2:=by
   have Y:∀{b:Addr},b∉[e,it]->b≠e/\b≠it:=λB=>⟨λz=>B (by simp[z]),λz=>B (by simp[z])⟩
   exact⟨λb o g _ _ B=>kk b o (Y B).1 (Y B).2 g,λb o g _ _ B=>⟨o.slots,kk b o (Y B).1 (Y B).2 g⟩,λb o g n _=>by rw[upd_ne (nT b o g)];exact n,λb o g B=>⟨o,kk b o (Y B).1 (Y B).2 g⟩,
    λb ys g=>by rw[upd_ne (aQf g j)];exact g,λb o v g=>by rw[upd_ne (aQf g j)];exact g,λb ps g=>⟨#[],by rw[upd_ne (aQf g j),g];simp⟩⟩
  have I2:Inv X pins σ (upd H s.heap.objs.size (.tup [.int i,x])) {s with heap:=h2,toks:=Z+1}:=I.call' rfl un hok I.bare λb B=>by
   rcases av.mp B with rfl|B
   ·exact⟨fe.2.2.2.1,fe.2.1,fe.2.2.2.2.1,fe.2.2.2.2.2⟩
   ·have:=aJ.mp B
    subst this;exact⟨fi.2.2.2.1,fi.2.1,fi.2.2.2.2.1,fi.2.2.2.2.2⟩
  refine⟨.ref s.heap.objs.size,_,I2,rfl,⟨_,x,j,rfl,rfl,λys hy=>by rw[I.tuple_inj hy hq];exact hx⟩,⟨⟨_,by simpa using he2⟩,?_⟩,λb B=>?_⟩
  ·obtain⟨o,g,r⟩:=hs'.1;exact⟨o,(O.2 it (cE hei)).trans g,r⟩
  ·have hb':b<s.heap.objs.size:=by
    rcases av.mp B with rfl|B
    ·exact hel
    ·have:=aJ.mp B
     subst this;obtain⟨o,g,_⟩:=G;exact aC g
   rw[upd_ne (Nat.ne_of_lt hb')];exact(hf b B).1
 done:=by
  intro X hP hw hK hc i pins s σ H E I hf st hg;subst hP hw hK;obtain⟨xs,hq,hx⟩:=hg;obtain⟨its,rv,p,hz⟩:=I.tuple hq;obtain⟨⟨old,he⟩,G⟩:=st;have hl:=rv.length;have hh:X.A.in1.handled=none:=by have:=I.ok.hd hc;simp[this]
  have hT:=p;obtain⟨f0,f1,f2,f3,f4,f5⟩:=hf it (by simp)
  have hT2:s.TypeIs (.ref e) "enumerate":=⟨_,he,rfl⟩;refine aa (iG (cN hT2 F.slot_enumerate_next (b9 F.slot_enumerate_next hT2 F.entry_enumerate_next ?_ (F.args_enumerate_next_1 _))));refine aa (m:=field (.ref e) 2) (ew he rfl rfl (aa (eQt hh G hT (by simp;lia) λh' x he' hx'=>?_)))
  obtain⟨o,U,D⟩:=hx';refine aa (iA ⟨o,U,D⟩ isSubtype_stop ?_);exact ad ⟨rfl,I.turned (λb o B g=>he' b o B g) f0 f1 f3 f4 f5⟩
 self:=λA i s Q E st h=>by
  obtain⟨⟨old,he⟩,_⟩:=st;exact wpAny_pyIter_enum he h
section
variable{X:Cx}
def iEnT(K:Fg)(ta:TA):TI:=fun σ H R=>ta σ H λvs H1=>∃a,vs=[.ref a]/\(∃xs,SqT K H1 a xs)/\R (Ite K a) H1
theorem gZs(hg:Gl X "enumerate")(hm:X.mg "enumerate"=none)(ha:PA X [e] ta)(hs:aD [e] X.env=[(false,eval e X.env)]:=by rfl) :
  PI X (.Tuple elts x1 tpos) (.Call (.Name "enumerate" p) [e] [] pos) (iEnT X.K ta):=by
 intro pins s σ H R I h;refine Call_ (ld_blt I hg hm PyProof.Rows.boot_enumerate (eL (thn (ha pos pins s σ H _ I h) λus s1 ⟨vs,H1,j,G,J⟩=>?_) hs rfl));obtain⟨a,rfl,⟨xs,O⟩,q⟩:=J;obtain⟨u,rfl,rx⟩:=aX3 G;cases rx;obtain⟨B,Y,pl,Z⟩:=j.tuple O;have z:a<s1.heap.objs.size:=by obtain⟨o,e,_⟩:=id pl;exact aC e
 refine eXt (pl) λh' he hi U=>wpAny_pyIter_enum he ?_
 refine⟨s1.heap.objs.size+1,[s1.heap.objs.size+1,s1.heap.objs.size],_,_,H1,rfl,j.kept U,eXu a s1.heap.objs.size (s1.heap.objs.size+1) (Nat.succ_ne_self _) (Nat.ne_of_lt (Nat.lt_succ_of_lt z)) (Nat.ne_of_lt z),⟨⟨_,he⟩,hi⟩,λb D=>?_,q⟩;rcases av.mp D with rfl|D
 ·exact j.fpOk (Nat.le_succ _) (j.hok.fresh (Nat.le_succ _))
 ·have:=aJ.mp D
  subst this;exact j.fpOk (Nat.le_refl _) (j.hok.fresh (Nat.le_refl _))
end
end L2
namespace HT
open PySem PyProof.Rows
def ltS(a b:Str):Bool:=decide (a.cps.toList<b.cps.toList)
def lexS:List Str->List Str->Bool
 |[],[]=>false
 |[],_::_=>true
 |_::_,[]=>false
 |x::xs,y::ys=>if x=y then lexS xs ys else ltS x y
theorem lexS_cons(x y:Str)(xs ys:List Str):lexS (x::xs) (y::ys)=if x=y then lexS xs ys else ltS x y:=rfl
theorem aJu:lexS [] []=false:=rfl
theorem lexS_nil_cons(y:Str)(ys:List Str):lexS [] (y::ys)=true:=rfl
theorem lexS_cons_nil(x:Str)(xs:List Str):lexS (x::xs) []=false:=rfl
abbrev SAre:List ab->List Str->Prop:=aZ λv x=>∃t,v=.str x t
theorem SAre.len(h:SAre l m):l.length=m.length:=bL h
theorem dQj(A:aU)(s:ag)(a:Str)(t:Tok)(c:Str)(u:Tok):∃e,cS A s (.str a t) (.str c u) e/\(e=true↔a=c) :=
 ⟨(a==c),je a t c u,by simp⟩
theorem rcLt_st(A:aU)(s:ag)(a:Str)(t:Tok)(c:Str)(u:Tok)(prog:ax)(w:aK)(E:ab->ag->Prop)(Q:ab->ag->Prop)(h:Q (.bool (ltS a c)) s) :
  aE (aF prog w) A (richCompare .Lt (.str a t) (.str c u)) Q E s :=
 (kK h)
section
open PySem.SeqAt
open PySem.AutoSeq1 (wpAny_loadPart')
open PySem.MeetsSeq PySem.MeetsSeq2 PySem.MeetsSeq3
theorem tuple_lt_strs(l b:Addr)(items items2:Array ab)(n n2:Nat)(dd dd2:Option Addr)(sl sl2:Array (Option ab))(ns ms:List Str)(hi:SAre items.toList ns)(hj:SAre items2.toList ms) :
  Meets (cr.«tuple.__lt__» ⟨[.ref l,.ref b],[]⟩)
   (λ_ R s=>s.heap.get? l=some { cls:=.type "tuple",dict:=dd,data:=.seq items n,slots:=sl }/\s.heap.get? b=some { cls:=.type "tuple",dict:=dd2,data:=.seq items2 n2,slots:=sl2 } /\
    R (.ok (.ret (.bool (lexS ns ms)))) s) :=
 .of_wp λprog w A R s h=>by
  obtain⟨Z,g,d,Y,os⟩:=s;obtain⟨hl,hb,h⟩:=h;have f2:=gK;have z1:items.size=ns.length:=by rw[<- hi.len];simp
  have z2:items2.size=ms.length:=by rw[<- hj.len];simp
  wp_walk using bu hl,bu hb,gu _ (λrest b s'=>b.1=none/\s'=⟨Z,g,d,Y,os⟩/\∃ (vs ws:List ab) (j z:List Str),rest=vs.zip ws /\
   SAre vs j/\SAre ws z/\j.length+items2.size=z.length+items.size/\R (.ok (.ret (.bool (lexS j z)))) ⟨Z,g,d,Y,os⟩) _
  case turn =>
   rintro⟨y,x⟩ rest b s' ⟨J,rfl,vs,ws,j,z,hz,hvi,hwi,hlen,D⟩;cases hvi with
   |nil=>rw[fZ] at hz;cases hz
   |@cons va a _ _ ha U =>
    obtain⟨t,rfl⟩:=ha;cases hwi with
    |nil=>rw[d8] at hz;cases hz
    |@cons vc c _ _ hc O =>
     obtain⟨u,rfl⟩:=hc;rw[cI] at hz;injection hz with hyx G
     injection hyx with hy hx
     subst hy hx;rw[lexS_cons] at D;simp only[az] at hlen;obtain⟨e,he,B⟩:=dQj A.in1 ⟨Z,g,d,Y,os⟩ a t c u;refine aa (he prog w _ _ ?_);cases e with
     |true =>
      rw[if_pos (B.mp rfl)] at D
      wp_walk
      exact⟨rfl,rfl,_,_,_,_,G,U,O,by lia,D⟩
     |false =>
      rw[if_neg (λq=>absurd (B.mpr q) bh)] at D;have hri:=rcLt_st A.in1 ⟨Z,g,d,Y,os⟩ a t c u prog w
      wp_walk using hri
      exact⟨_,rfl,by simpa using D⟩
  case fin =>
   rintro⟨b1,b2⟩ s' ⟨J,rfl,vs,ws,j,z,hz,hvi,hwi,hlen,D⟩;simp only at J;subst J;have hv:lexS j z=decide (items.size<items2.size):=by
    cases hvi with
    |nil =>
     cases hwi with
     |nil =>
      simp only[cg] at hlen;rw[aJu];exact(decide_eq_false (by lia)).symm
     |cons hc hw =>
      simp only[cg,az] at hlen;rw[lexS_nil_cons];exact(decide_eq_true (by lia)).symm
    |cons ha hv =>
     cases hwi with
     |nil =>
      simp only[cg,az] at hlen;rw[lexS_cons_nil];exact(decide_eq_false (by lia)).symm
     |cons hc hw =>
      rw[cI] at hz;cases hz
   rw[hv] at D
   wp_walk
   exact⟨_,rfl,by simpa [fu] using D⟩
  case h =>
   exact⟨rfl,rfl,items.toList,items2.toList,ns,ms,rfl,hi,hj,by lia,h⟩
end
section
variable{prog:ax}{w:aK}{A:aU}{E:ab->ag->Prop}{s:ag}
theorem lt_tupStrs(hl:gE s.heap l items)(hb:gE s.heap b items2)(hi:SAre items.toList ns)(hj:SAre items2.toList ms)
  (hu:A.units<bN) (h:Q (.bool (lexS ns ms)) s):aE (aF prog w) A (bU .Lt (.ref l) (.ref b)) Q E s:=by
 obtain⟨⟨cls,dd,data,sl⟩,G,J,n,hd⟩:=id hl;obtain⟨⟨O,D,data2,B⟩,j,z,U,hd2⟩:=id hb;simp only at J hd z hd2;subst J hd z hd2;exact fL (op:=.Lt) ⟨_,G,rfl⟩ ⟨_,j,rfl⟩ fU ic (gX _ _) (tuple_lt_strs l b items items2 n U dd D sl B ns ms hi hj)
  ⟨G,j,⟨(λx=>nomatch x),h⟩⟩ hu
end
end HT
namespace L2
open PySem PySem.Spec PyProof.Rows
theorem aXt:∀{xs:List V}{us:List ab}{ds:List Str},aZ (dS H) xs ds->Vals xs us->HT.SAre us ds
 |_,_,_,.nil,.nil=>.nil
 |_,_,_,.cons p q,.cons r t=>by
  cases p;exact .cons r (aXt q t)
def rLtS(K:Fg):R2:=λx y H Q=>∃d e,dT K dS H x d/\dT K dS H y e/\Q (.bl (HT.lexS d e)) H
theorem fXm(hu:X.A.units<bN):OpR X (bU .Lt) (rLtS X.K):=by
 intro pins s σ H x y v u Q I rx ry h;obtain⟨d,e,⟨a,xs,rfl,Y,G⟩,⟨b,ys,rfl,U,D⟩,q⟩:=h;cases rx;cases ry;obtain⟨O,B,J,_⟩:=I.tuple Y;obtain⟨j,z,p2,_⟩:=I.tuple U;exact HT.lt_tupStrs J p2 (aXt G B) (aXt D z) hu ⟨.bl (HT.lexS d e),H,I,rfl,q⟩
end L2
set_option maxHeartbeats 1000000
namespace L2
open PySem PySem.Spec PyProof.Rows
variable{α β γ:Type}
theorem fXn:(aQ9 X N' scope cl C fp s H (some x)).fn x=true:=decide_eq_true rfl
theorem gZt(l:List α)(h:l≠[]):atI l (-1)=some (l.getLast h):=by
 unfold atI ixN;have hl:=dQ.mpr h;have e:(-1+(l.length:Int)).toNat=l.length-1:=by lia
 rw[if_neg (by decide),if_pos (by lia),e]
 show l[l.length-1]?=_;rw[List.getLast_eq_getElem,af (by lia)]
theorem nd_(l:List Str)(h:l.Nodup:=by decide +kernel):l.Nodup:=h
theorem lt64(r:Room k A)(h:n<=64:=by decide):A.units+n<bN:=by have:=r.units;lia
section
variable{X:Cx}{K:Fg}{tg:Expr}{a:Expr}{ta:TE}
theorem eXv(hK:X.K=K:=by rfl):SlR X (rSlT K):=hK▸fX6
theorem dJb(hK:X.K=K:=by rfl):SlR X (rSlL K):=hK▸eXf
theorem dJc(hK:X.K=K:=by rfl):OpR X (fb .Add) (eXc K):=hK▸eXd
theorem cQh(hK:X.K=K:=by rfl):CallR X (.type "tuple") (λxs H Q=>∃p ys,xs=[.ref p]/\((SqL K H p ys/\∀l,H l=none->Q (.ref l) (upd H l (.tup ys)))\/(SqT K H p ys/\Q (.ref p) H))):=hK▸bX0
theorem cXy(hK:X.K=K:=by rfl):CallR X (.type "list") (λxs H Q=>∃p ys,xs=[.ref p]/\(SqL K H p ys\/SqT K H p ys)/\∀l,H l=none->Q (.ref l) (upd H l (.lst ys))):=hK▸call_list_of
theorem dQk(hK:X.K=K:=by rfl)(hc:X.calm=true:=by rfl):CallR X (.builtin "all") (λxs H Q=>∃x bs,xs=[x]/\dL K dB H x bs/\Q (.bl (bs.all id)) H):=hK▸dQd hc
theorem dQl(hK:X.K=K:=by rfl)(hc:X.calm=true:=by rfl):CallR X (.builtin "any") (λxs H Q=>∃x bs,xs=[x]/\dL K dB H x bs/\Q (.bl (bs.any id)) H):=hK▸dQe hc
theorem cQi(hu:X.A.units+8<bN)(hK:X.K=K:=by rfl)(hc:X.calm=true:=by rfl):CallR X (.type "set") (λxs H Q=>∃x ds,xs=[x]/\dT K (dT K dS) H x ds/\ds.length+1<=300/\∀p n,H p=none->SzOk ds n->Q (.ref p) (upd H p (szO p n))):=hK▸cXw hc hu
theorem cQj(hu:X.A.units+8<bN)(hK:X.K=K:=by rfl)(hc:X.calm=true:=by rfl):CallR X (.type "set") (λxs H Q=>∃x ds,xs=[x]/\dL K dS H x ds/\ds.length+1<=300/\∀p n,H p=none->SzOk ds n->Q (.ref p) (upd H p (szO p n))):=hK▸cXx hc hu
theorem eXw(hu:X.A.units<bN)(hK:X.K=K:=by rfl):OpR X (bU .Lt) (rLtS K):=hK▸fXm hu
theorem dQm(ha:PE X a ta)(he:∀whole,isTrue a X.env whole=(do let v <- whole;gk a.pos;jt [v] (truthy v)))(hK:X.K=K:=by rfl):PT X a (fun σ H Q=>ta σ H λx H'=>∃k,TruV K x H' k/\Q k H'):=by subst hK;exact dXz ha he
theorem fXo{ta:TA}{p pos:Pos}{elts:List Expr}{x1:Nat}{tpos:Pos}(hg:Gl X "enumerate")(hm:X.mg "enumerate"=none)(ha:PA X [e] ta)(hs:aD [e] X.env=[(false,eval e X.env)]:=by rfl)(hK:X.K=K:=by rfl) :
  PI X (.Tuple elts x1 tpos) (.Call (.Name "enumerate" p) [e] [] pos) (iEnT K ta):=by subst hK;exact gZs hg hm ha hs
end
end L2
set_option maxHeartbeats 4000000
namespace KS
open PySem PySem.W PyProof.Rows
variable{lt:Nat->Nat->Bool}{n:Nat}
end KS
set_option maxHeartbeats 1000000
namespace ST
open PySem PySem.SetTable PySem.Spec PyProof.Rows
theorem bZ7:entryFor table "set.__iter__"=some cr.«frozenset.__iter__»:=entryFor_alias (id':="frozenset.__iter__") (by kernel_rfl) rfl (by decide +kernel) (by kernel_rfl)
theorem slot_setit_next:Slot "set_iterator" "__next__" "set_iterator.__next__" :=
 .of (owner:="set_iterator") (n:="__next__") (by rw[typeLookup_type,builtinLookup_eq_fast];kernel_rfl) (by decide +kernel) (by decide +kernel) (by decide +kernel)
  (by first|exact .inl (by decide +kernel)|exact .inr (by decide +kernel)) (by rw[isSubtype_type];kernel_rfl)
theorem aJz:entryFor table "set_iterator.__next__"=some cr.«set_iterator.__next__»:=entryFor_of_tree (by kernel_rfl)
theorem bQj(a:ab):argsOk "set_iterator.__next__" ⟨[a],[]⟩:=by kernel_rfl
theorem dJd:typeLookup (.type "set") "__len__"=pure (some (.builtin "set.__len__")):=by rw[typeLookup_type,builtinLookup_eq_fast];kernel_rfl
section
variable{prog:ax}{w:aK}{A:aU}{E:ab->ag->Prop}{s:ag}
theorem eXx(ho:s.heap.get? p=some (setOb es ep t))(h:Q false s):aE (aF prog w) A (iR (.ref p)) Q E s:=by
 have j:s.TypeIs (.ref p) "set":=⟨_,ho,rfl⟩;refine aa (wpAny_specialOf j dJd ?_);dsimp only;have B:splitId "set.__len__"=some ("set", "__len__"):=by decide +kernel
 rw[B];refine aa (iA (b:=true) j (by rw[isSubtype_type];kernel_rfl) ?_)
 rw[if_neg (by decide)]
 refine iO (λz=>?_) (λz=>absurd (by decide +kernel) z)
 refine aa (g8 j ?_);exact ad h
theorem bZp{α:Type}{l:List α}(h:i<l.length):(l[i]::l.eraseIdx i).Perm l:=by
 have e:l=l.take i++l[i]::l.drop (i+1):=by
  rw[<- cj h,bA]
 rw[List.eraseIdx_eq_take_drop_succ];refine gq.symm.trans ?_;rw[<- e]
theorem eXy(hn:n≠0)(h:∀i,i<n->Q i {s with drawn:=s.drawn.bump .order}):aE (aF prog w) A (choose .order n) Q E s:=fun Γ p hΓ=>by
 show Sem.wp _ _ (.choose .order n .pure) _ _ _ _;rw[Sem.wp_choose];exact⟨hn,h _ (Nat.mod_lt _ (Nat.pos_of_ne_zero hn))⟩
theorem fXp:∀(n:Nat) (xs:List α) {s:ag}{Q:List α->ag->Prop},xs.length=n->(∀ys d,ys.Perm xs->Q ys {s with drawn:=d})->aE (aF prog w) A (drawOrder n xs) Q E s
 |0,xs,s,Q,hl,h=>by
  have e:=eG.mp hl;subst e;exact ad (h [] s.drawn (dJ _))
 |n+1,xs,s,Q,hl,h=>by
  cases xs with
  |nil=>cases hl
  |cons x r =>
   refine aa ?_;have j:(x::r).length≠0:=by simp
   refine eXy j λi hi=>?_;have B:=af hi;rw[B];refine aa (fXp n ((x::r).eraseIdx i) (by rw[jf hi];simp at hl ⊢;lia) λys d z=>?_)
   refine ad (h _ d ?_);refine(z.cons _).trans ?_;exact bZp hi
theorem bJg(next:Nat->Nat):∀(fuel k:Nat) (left:List α) (out:Array α),left.length=fuel->(kR next fuel k left out).toList.Perm (out.toList++left)
 |0,k,left,out,hl=>by
  have e:=eG.mp hl;subst e;unfold kR;rw[ce]
 |fuel+1,k,left,out,hl=>by
  unfold kR;have hi:next k%left.length<left.length:=Nat.mod_lt _ (by lia)
  rw[af hi];refine(bJg next fuel (k+1) _ _ (by rw[jf hi];lia)).trans ?_
  rw[cG,be];exact eW _ (bZp hi)
theorem bZ8(next:Nat->Nat)(xs:Array α):(iY next xs).toList.Perm xs.toList:=by
 have:=bJg next xs.size 0 xs.toList #[] (by simp)
 simpa [iY] using this
def itOb(first:ab)(i:Nat)(p:Addr)(n ep:Nat):Obj:={cls:=.type "set_iterator",dict:=none,data:=.fields #[first,.int i 0,.ref p,.int n 0,.int ep 0],slots:=#[]}
theorem stopT{I:Addr}{Q:Option ab->ag->Prop}{s:ag}(hh:A.in1.handled=none)(h:∀h',(∀b o,s.heap.get? b=some o->h'.get? b=some o)->Q none {s with heap:=h'}) :
  aE (aF prog w) A.in1 (newExc (.type "StopIteration") []>>=λe=>(raiseNew e:Sem Fin)) (λfin s'=>∃r,fin=.done (.ret r)/\aE (aF prog w) A (pure (some r)) Q E s') (λe s'=>aE (aF prog w) A (do if <- isInstance e (.type "StopIteration") then pure none else throw e) Q E s') s:=by
 refine aa ?_;simp only[newExc,newTuple];refine aa (bi ?_ (by size_fits))
 refine aa (ju (by first|rfl|(simp only[jd];rfl)) ?_)
 refine bi ?_ (by size_fits)
 simp only[raiseNew];refine aa (wpAny_handled ?_);rw[hh];refine aa (ad (wpAny_throw ?_));refine aa (iA ⟨_,aq _ rfl,rfl⟩ isSubtype_stop ?_);exact ad (h _ λb o e=>ae _ (ae _ e))
theorem aJi{I p:Addr}{es:Array (Int×ab)}{ep:Nat}{t:a6}{first:ab}{i:Nat}{Q:Option ab->ag->Prop}(hp:s.heap.get? p=some (setOb es ep t))(hf:t.fits es.size=true)(hI:s.heap.get? I=some (itOb first i p es.size ep))
  (h:aE (aF prog w) A.in1 (if let .int slot _:=first then do
    match <- setNext p slot.toNat (i:Int).toNat (ep:Int).toNat with
    |some (x,next)=>do
     iK (.ref I) 0 (er next)
     iK (.ref I) 1 (er ((i:Int)+1))
     ret x
    |none=>do iK (.ref I) 2 .none;raiseNew (<- newExc (.type "StopIteration") [])
   else do
    let some places <- jQ first|fH "internal:set_iterator"
    match places[(i:Int).toNat]? with
    |some (.int place _)=>do
     let x <- setNextDrawn p place.toNat (ep:Int).toNat
     iK (.ref I) 1 (er ((i:Int)+1))
     ret x
    |some _=>fH "internal:set_iterator"
    |none=>do iK (.ref I) 0 (er 0);iK (.ref I) 2 .none;raiseNew (<- newExc (.type "StopIteration") []))
   (λfin s'=>∃r,fin=.done (.ret r)/\aE (aF prog w) A (pure (some r)) Q E s') (λe s'=>aE (aF prog w) A (do if <- isInstance e (.type "StopIteration") then pure none else throw e) Q E s') s) :
  aE (aF prog w) A (eJ (.ref I)) Q E s:=by
 have j:s.TypeIs (.ref I) "set_iterator":=⟨_,hI,rfl⟩;refine aa (iG (cN j slot_setit_next
  (b9 slot_setit_next j aJz ?_ (bQj _))))
 simp only[jR,gJ,aM,↓reduceIte,j6,cg,bne_self_eq_false];refine aa (ad ?_)
 try dsimp only
 refine aa (ie hI rfl ?_);refine aa (wpAny_setEntries_of hp rfl hf ?_);rw[if_neg (by simp)]
 exact h
structure Gives(prog:ax)(w:aK)(A:aU)(I:Addr)(fp:List Addr)(vals:List ab)(St:Nat->bb->Prop):Prop where
 mem:I∈fp
 frame:∀i h h',St i h->(∀b∈fp,∀o,h.get? b=some o->h'.get? b=some o)->St i h'
 item:∀(i:Nat) (s:ag) (v:ab) (Q:Option ab->ag->Prop) (E:ab->ag->Prop),vals[i]?=some v->St i s.heap ->
  (∀h',St (i+1) h'->(∀b o,b≠I->s.heap.get? b=some o->h'.get? b=some o)->Q (some v) {s with heap:=h'})->aE (aF prog w) A (eJ (.ref I)) Q E s
 done:∀(s:ag) (Q:Option ab->ag->Prop) (E:ab->ag->Prop),St vals.length s.heap ->
  (∀h',(∀b o,b≠I->s.heap.get? b=some o->h'.get? b=some o)->Q none {s with heap:=h'})->aE (aF prog w) A (eJ (.ref I)) Q E s
theorem cZj{ep i:Nat}(hp:s.heap.get? p=some (setOb es ep t))(hf:t.fits es.size=true)(hw:w.params.followText "set-order"=true)
  (h:Q (((iY (w.params.setOrder p ep) es)[i]?).map λe=>(e.2,0)) s):aE (aF prog w) A (setNext p (0:Int).toNat (i:Int).toNat (ep:Int).toNat) Q E s:=by
 refine aa (dN hp rfl hf ?_);refine aa (aa (dF (ad ?_)));have j:(aF prog w).w.params.followText "set-order"=true:=hw;rw[j,if_pos rfl,if_neg (by simp)]
 refine aa (aa (dN hp rfl hf ?_));refine aa (aa (dF (ad ?_)));rw[j,if_pos rfl];refine aa (dF ?_);refine ad (ad ?_);rw[cO];exact h
theorem fXq(hh:A.in1.handled=none)(hTI:T≠I)(hpI:p≠I)(hl:places.size=vals.length)
  (hpl:∀(j:Nat) (pl:ab),places[j]?=some pl->∃q:Nat,pl=iV q 0/\∃e,es[q]?=some e/\vals[j]?=some e.2) :
  Gives prog w A I [I,p,T] vals (λi h=>h.get? p=some (setOb es ep t)/\t.fits es.size=true/\h.get? I=some (itOb (.ref T) i p es.size ep)/\∃o c,h.get? T=some o/\o.data=.seq places c) where
 mem:=by simp
 frame:=λi h h' st k=>by
  obtain⟨h1,h2,z,o,c,D,B⟩:=st;exact⟨k p (by simp) _ h1,h2,k I (by simp) _ z,o,c,k T (by simp) _ D,B⟩
 item:=λi s v Q E Y st J=>by
  obtain⟨h1,h2,z,o,c,D,B⟩:=st;refine aJi h1 h2 z ?_;refine aa (dM D B ?_);dsimp only;have hi:i<places.size:=by rw[hl];exact(aH.mp Y).1
  obtain⟨q,e1,e,e2,Z⟩:=hpl i places[i] (by simp[hi])
  have U:places[(i:Int).toNat]?=some (iV q 0):=by rw[cO,<- e1];simp[hi]
  rw[U];have ev:e.2=v:=by rw[Y] at Z;exact(a7 Z).symm
  refine aa ?_;refine aa (dN h1 rfl h2 ?_);dsimp only;rw[if_neg (by simp),cO,e2]
  refine ad ?_;refine aa (bV z (by show 1<5;decide) λh' g1 g2=>?_)
  rw[ev];refine ad ⟨v,rfl,ad (J h' ⟨?_,h2,?_,o,c,?_,B⟩ λb o' G e=>(g2.2 b G).trans e)⟩
  ·exact(g2.2 p hpI).trans h1
  ·exact g1
  ·exact(g2.2 T hTI).trans D
 done:=λs Q E st J=>by
  obtain⟨h1,h2,z,o,c,D,B⟩:=st;refine aJi h1 h2 z ?_;refine aa (dM D B ?_);dsimp only;have U:places[(vals.length:Int).toNat]?=none:=by rw[cO,<- hl];simp
  rw[U];refine aa (bV z (by show 0<5;decide) λh' g1 g2=>?_)
  refine aa (bV g1 (by show 2<5;decide) λh'' g3 g4=>?_)
  exact stopT (I:=I) hh λO k=>J O λb o' G e=>k b o' ((g4.2 b G).trans ((g2.2 b G).trans e))
theorem fXr{p I:Addr}{es:Array (Int×ab)}{ep:Nat}{t:a6}{vals:List ab}(hh:A.in1.handled=none)(hpI:p≠I)(hw:w.params.followText "set-order"=true)(hv:vals=(iY (w.params.setOrder p ep) es).toList.map (·.2)) :
  Gives prog w A I [I,p] vals (λi h=>h.get? p=some (setOb es ep t)/\t.fits es.size=true/\h.get? I=some (itOb (.int 0 0) i p es.size ep)) where
 mem:=by simp
 frame:=λi h h' st k=>by
  obtain⟨h1,h2,j⟩:=st;exact⟨k p (by simp) _ h1,h2,k I (by simp) _ j⟩
 item:=λi s v Q E hv' st G=>by
  obtain⟨h1,h2,j⟩:=st;refine aJi h1 h2 j ?_;refine aa (cZj h1 h2 hw ?_);have O:((iY (w.params.setOrder p ep) es)[i]?).map (λe=>(e.2,0))=some (v,0):=by
   rw[hv,aQ,aS] at hv';cases q:(iY (w.params.setOrder p ep) es)[i]? with
   |none=>rw[q] at hv';cases hv'
   |some e=>rw[q] at hv';cases hv';rfl
  rw[O];refine aa (bV j (by show 0<5;decide) λh' g1 g2=>?_)
  refine aa (bV g1 (by show 1<5;decide) λz g3 D=>?_)
  refine ad ⟨v,rfl,ad (G z ⟨?_,h2,g3⟩ λb o' B e=>(D.2 b B).trans ((g2.2 b B).trans e))⟩;exact(D.2 p hpI).trans ((g2.2 p hpI).trans h1)
 done:=λs Q E st G=>by
  obtain⟨h1,h2,j⟩:=st;refine aJi h1 h2 j ?_;refine aa (cZj h1 h2 hw ?_);have O:(iY (w.params.setOrder p ep) es)[vals.length]?=none:=by
   rw[hv];simp
  rw[O];refine aa (bV j (by show 2<5;decide) λz g3 D=>?_)
  exact stopT (I:=I) hh λJ k=>G J λb o' B e=>k b o' ((D.2 b B).trans e)
end
end ST
set_option maxHeartbeats 4000000
namespace ST
open PySem PySem.SetTable PySem.Spec PyProof.Rows
section
variable{prog:ax}{w:aK}{A:aU}{E:ab->ag->Prop}{s:ag}
theorem bJh{p:Addr}{es:Array (Int×ab)}{ep i sl:Nat}{t:a6}{Q:Option (ab×Nat)->ag->Prop}(hp:s.heap.get? p=some (setOb es ep t))(hf:t.fits es.size=true)(hw:w.params.followText "set-order"=false)(hled:t.led=true)(h1:es.size<=1)
  (h:Q (match es[below t.place sl]?,t.place[below t.place sl]? with|some (_,x),some j=>some (x,j+1)|_,_=>none) s):aE (aF prog w) A (setNext p (sl:Int).toNat (i:Int).toNat (ep:Int).toNat) Q E s:=by
 refine aa (dN hp rfl hf ?_);refine aa (aa (dF (ad ?_)));have z:(aF prog w).w.params.followText "set-order"=false:=hw;rw[z,if_neg bh];refine iO (λD=>?_) (λ_=>?_)
 ·have B:(!t.plain&&decide (es.size>1))=true:=D;simp only[aV,decide_eq_true_eq] at B;lia
 ·refine aa ?_;show aE _ _ (if (!t.led && !es.isEmpty)=true then fH "set:maker-not-led" else pure ()) _ _ _
  rw[hled,if_neg (by simp)]
  refine ad ?_;refine ad ?_;rw[cO];exact h
theorem bJi(j sl:Nat):below #[j] sl=if j<sl then 1 else 0:=by
 unfold below;simp only[ay,d3];unfold below.go;simp only[Nat.lt_irrefl,if_true,Nat.zero_lt_one]
 split
 ·rename_i h;have h':j<sl:=by simpa using h
  rw[if_pos h'];rfl
 ·rename_i h;have h':¬ j<sl:=by simpa using h
  rw[if_neg h'];rfl
theorem cZk{es:Array (Int×ab)}{t:a6}(hf:t.fits es.size=true):t.place.size=es.size:=by
 unfold kM at hf;simp only[aV,beq_iff_eq] at hf;exact hf.1
theorem fXs{p I:Addr}{es:Array (Int×ab)}{ep:Nat}{t:a6}{vals:List ab}(hh:A.in1.handled=none)(hpI:p≠I)(hw:w.params.followText "set-order"=false)(hled:t.led=true)(h1s:es.size<=1)(hv:vals=es.toList.map (·.2)) :
  Gives prog w A I [I,p] vals (λi h=>h.get? p=some (setOb es ep t)/\t.fits es.size=true/\∃sl:Nat,h.get? I=some (itOb (.int sl 0) i p es.size ep)/\(i=0->sl=0)/\(i=1->∀j,t.place=#[j]->sl=j+1)) where
 mem:=by simp
 frame:=λi h h' st k=>by
  obtain⟨h1,h2,sl,D,Y⟩:=st;exact⟨k p (by simp) _ h1,h2,sl,k I (by simp) _ D,Y⟩
 item:=λi s v Q E B st hQ=>by
  obtain⟨h1,h2,sl,D,Y,h5⟩:=st;refine aJi h1 h2 D ?_;refine aa (bJh h1 h2 hw hled h1s ?_);have hi:i<es.size:=by
   have:=(aH.mp B).1
   rw[hv] at this;simpa using this
  have i0:i=0:=by lia
  subst i0;have sl0:=Y rfl;subst sl0;have hps:=cZk h2;obtain⟨j,O⟩:∃j,t.place=#[j]:=by
   have:t.place.size=1:=by lia
   exact⟨t.place[0],Array.ext (by simp[this]) λk hk1 hk2=>by
    have:k=0:=by lia
    subst this;simp⟩
  rw[O,bJi,if_neg (Nat.not_lt_zero _)];have ee:es[0]?=some es[0]:=by simp[hi]
  have e0:es[0].2=v:=by
   rw[hv,aQ,aS,ee] at B;exact a7 B
  have e1:es[0]?=some (es[0].1,v):=by rw[ee,<- e0]
  have e2:(#[j])[0]?=some j:=rfl;rw[e1,e2];refine aa (bV D (by show 0<5;decide) λh' g1 g2=>?_)
  refine aa (bV g1 (by show 1<5;decide) λG g3 Z=>?_)
  refine ad ⟨v,rfl,ad (hQ G ⟨?_,h2,j+1,g3,(λz=>nomatch z),λ_ j' J=>?_⟩ λb o' U e=>(Z.2 b U).trans ((g2.2 b U).trans e))⟩
  ·exact(Z.2 p hpI).trans ((g2.2 p hpI).trans h1)
  ·rw[O] at J
   have:=congrArg (λa:Array Nat=>a[0]?) J
   simp at this;rw[this]
 done:=λs Q E st hQ=>by
  obtain⟨h1,h2,sl,D,Y,h5⟩:=st;refine aJi h1 h2 D ?_;refine aa (bJh h1 h2 hw hled h1s ?_);have hlen:vals.length=es.size:=by rw[hv];simp
  have hps:=cZk h2;have nn:es[below t.place sl]?=none:=by
   by_cases c:es.size=0
   ·simp[c]
   ·have c1:es.size=1:=by lia
    obtain⟨j,O⟩:∃j,t.place=#[j]:=by
     have:t.place.size=1:=by lia
     exact⟨t.place[0],Array.ext (by simp[this]) λk hk1 hk2=>by
      have:k=0:=by lia
      subst this;simp⟩
    have:=h5 (by lia) j O
    rw[O,bJi,if_pos (by lia)]
    simp[c1]
  rw[nn];refine aa (bV D (by show 2<5;decide) λG g3 Z=>?_)
  exact stopT (I:=I) hh λh3' k=>hQ h3' λb o' U e=>k b o' ((Z.2 b U).trans e)
theorem gZu{p:Addr}{es:Array (Int×ab)}{ep:Nat}{t:a6}{Q:ab->ag->Prop}(hh:A.in1.handled=none)(hp:s.heap.get? p=some (setOb es ep t))(hf:t.fits es.size=true)(hled:t.led=ledOf w)(hpl:t.plain=true->es.size<=1)(hn:es.size<=300)
  (h:∀I fp vals St h' d,vals.Perm (es.toList.map (·.2))->Gives prog w A I fp vals St->St 0 h'->s.heap.objs.size<=I->(∀b∈fp,b=p\/s.heap.objs.size<=b)->(∀b o,s.heap.get? b=some o->h'.get? b=some o)->Q (.ref I) {s with heap:=h',drawn:=d}) :
  aE (aF prog w) A (iu (.ref p)) Q E s:=by
 have hT:s.TypeIs (.ref p) "set":=⟨_,hp,rfl⟩;have hlt:=aC hp;refine wpAny_pyIter_slot hT kr (b9 kr hT bZ7 ?_ (PySem.F.args_set_iter_1 _));unfold cr.«frozenset.__iter__» cr.Frozenset.slot0 slotArgs;simp only[jR,gJ,aM,↓reduceIte,j6,cg,bne_self_eq_false];refine aa (ad ?_)
 try dsimp only
 refine aa (ad ?_);refine aa (aa (wpAny_setEntries_of hp rfl hf (ad ?_)));refine aa (aa (dN hp rfl hf ?_));refine aa (aa (dF (ad ?_)));refine ad ?_;have fin:∀(first:ab) (h1:bb) (d:Drawn) (Q':Fin->ag->Prop),h1.get? p=some (setOb es ep t) ->
   Q' (.done (.ret (.ref h1.objs.size))) {s with heap:=h1.push (itOb first 0 p es.size ep),drawn:=d} ->
   aE (aF prog w) A.in1 (do
    let e <- setEpoch p
    let v <- newFields "set_iterator" [first,er 0,.ref p,er es.size,er e]
    ret v) Q' E {s with heap:=h1,drawn:=d}:=by
  intro first h1 d Q' ho hQ';refine aa (wpAny_setEpoch_of ho rfl hf ?_)
  exact aa (bi (ad hQ'))
 refine iO (λhc=>?_) (λhc=>?_)
 ·refine aa (fXp es.size (a4 es.size) (by simp) λys d B=>?_)
  have yl:ys.length=es.size:=by have:=B.length_eq;simpa using this
  have yr:∀q∈ys,q<es.size:=λq hq=>bf.mp (B.mem_iff.mp hq);obtain⟨f1,f2⟩:=fm_all (l:=ys) (f:=λq=>(es[q]?).map (·.2)) (λq hq=>by have:=yr q hq;simp[this])
  refine aa (bi ?_ (by show(ys.map λ(i:Nat)=>er i).toArray.size<=sizeLine;rw[ay,ah,yl,bH];lia))
  generalize U:s.heap.push _=h1;have D:h1.objs.size=s.heap.objs.size+1:=by rw[<- U,cB]
  have old:∀b o,s.heap.get? b=some o->h1.get? b=some o:=λb o e=>by rw[<- U];exact ae _ e
  have hTup:h1.get? s.heap.objs.size=some {cls:=.type "tuple",dict:=none,data:=.seq (ys.map λ(i:Nat)=>er i).toArray}:=by rw[<- U];exact aq _ rfl
  refine fin (.ref s.heap.objs.size) h1 d _ (old p _ hp) ?_;have G:=fXq (prog:=prog) (w:=w) (I:=h1.objs.size) (es:=es) (ep:=ep) (t:=t) (vals:=ys.filterMap λq=>(es[q]?).map (·.2)) (places:=(ys.map λ(i:Nat)=>er i).toArray) hh (by rw[D];exact Nat.ne_of_lt (Nat.lt_succ_self _)) (by rw[D];exact Nat.ne_of_lt (Nat.lt_succ_of_lt hlt)) (by simp[f1]) (λj pl hj=>by
   have hj':(ys.map λ(i:Nat)=>er i)[j]?=some pl:=by simpa using hj
   rw[aQ] at hj';cases q:ys[j]? with
   |none=>rw[q] at hj';cases hj'
   |some z =>
    rw[q] at hj';have hz:=yr z (am q);refine⟨z,(a7 hj').symm,es[z],by simp[hz],?_⟩
    rw[f2 j,q];simp[hz])
  refine⟨_,rfl, "set_iterator",_,⟨_,aq _ rfl,rfl⟩,slot_setit_next.lookup,h _ _ _ _ _ d ?_ G ⟨ae _ (old p _ hp),hf,aq _ rfl,_,_,ae _ hTup,rfl⟩ (by rw[D];exact Nat.le_succ _) (λb hb=>?_) λb o e=>ae _ (old b o e)⟩
  ·refine(B.filterMap _).trans ?_;have e:(a4 es.size).filterMap (λq=>(es[q]?).map (·.2))=es.toList.map (·.2):=by
    rw[<- cZf es,List.map_filterMap]
   rw[e]
  ·simp only[av,ix,or_false] at hb;rcases hb with e|e|e
   ·right;rw[e,D];exact Nat.le_succ _
   ·exact .inl e
   ·right;rw[e];exact Nat.le_refl _
 ·refine aa (ad ?_);refine fin (er 0) s.heap s.drawn _ hp ?_;have Y:=Nat.ne_of_lt hlt;have small:∀b∈[s.heap.objs.size,p],b=p\/s.heap.objs.size<=b:=λb hb=>by
   simp only[av,ix,or_false] at hb;rcases hb with e|e
   ·right;rw[e];exact Nat.le_refl _
   ·exact .inl e
  by_cases hw:w.params.followText "set-order"=true
  ·have G:=fXr (prog:=prog) (es:=es) (ep:=ep) (t:=t) hh Y hw rfl;exact⟨_,rfl, "set_iterator",_,⟨_,aq _ rfl,rfl⟩,slot_setit_next.lookup,h _ _ _ _ _ s.drawn ((bZ8 _ _).map _) G ⟨ae _ hp,hf,aq _ rfl⟩ (Nat.le_refl _) small λb o e=>ae _ e⟩
  ·have O:=fg.mpr hw;have h1:es.size<=1:=by
    have J:¬ ((!(w.params.followText "set-order")&&(!t.plain&&decide (es.size>1)))=true):=hc;rw[O] at J
    by_cases Z:t.plain=true
    ·exact hpl Z
    ·have:=fg.mpr Z
     rw[this] at J;simp at J;exact J
   have hl':t.led=true:=by rw[hled];show(!(w.params.followText "set-order"))=true;rw[O];rfl
   have G:=fXs (prog:=prog) (ep:=ep) hh Y O hl' h1 rfl;exact⟨_,rfl, "set_iterator",_,⟨_,aq _ rfl,rfl⟩,slot_setit_next.lookup,h _ _ _ _ _ s.drawn (dJ _) G ⟨ae _ hp,hf,0,aq _ rfl,λ_=>rfl,(λz=>nomatch z)⟩ (Nat.le_refl _) small λb o e=>ae _ e⟩
theorem dJe{St:Nat->bb->Prop}(G:Gives prog w A.in1 I fp vals St)(hn:vals.length<=300)(hSf:S∉fp)(res:ab) :
  ∀(k i:Nat) (s:ag) (c:Nat),vals.length-i=k->i<=vals.length->St i s.heap->s.heap.get? S=some {cls:=.type "list",dict:=none,data:=.seq (vals.take i).toArray c,slots:=#[]} ->
  (∀h' c',(∀b o,b≠S->b≠I->s.heap.get? b=some o->h'.get? b=some o)->h'.get? S=some {cls:=.type "list",dict:=none,data:=.seq vals.toArray c',slots:=#[]}->R (.ok (.ret res)) {s with heap:=h'}) ->
  fx (aF prog w) A (.builtin "list.extend.loop" ⟨[.ref S,.ref I,res],[]⟩) R s:=by
 have U:S≠I:=λe=>hSf (e▸G.mem);intro k
 induction k with
 |zero =>
  intro i s c hk hi j hS hR;have hin:i=vals.length:=by lia
  subst hin;refine ci jp ?_;rw[bJ eY _];refine aa (G.done s _ _ j λh' D=>?_);rw[bQ (Nat.le_refl _)] at hS;exact ad (hR h' c (λb o _ hb e=>D b o hb e) (D S _ U hS))
 |succ k ih =>
  intro i s c hk hi j hS hR;have B:i<vals.length:=by lia
  have hv:=af B;refine ci jp ?_;rw[bJ eY _];refine aa (G.item i s _ _ _ hv j λh1 st1 k1=>?_);have Z:=k1 S _ U hS;have szl:=bH;have z:(vals.take i).toArray.size=i:=by rw[ay,aP];lia
  refine aa ?_;refine fQ Z rfl (ad ⟨dh eY _,?_⟩) (by rw[z];lia) (by rw[dY,z];lia)
  have hS2:=cT (cf (·.push vals[i])) Z rfl;have et:(vals.take i).toArray.push vals[i]=(vals.take (i+1)).toArray:=by
   rw[cz,hv];simp
  obtain⟨c1,Y⟩:∃c1,(h1.update S (cf (·.push vals[i]))).get? S=some {cls:=.type "list",dict:=none,data:=.seq (vals.take (i+1)).toArray c1,slots:=#[]}:=⟨_,by rw[<- et];exact hS2⟩
  refine ih (i+1) {s with heap:=h1.update S (cf (·.push vals[i]))} c1 (by lia) B (G.frame _ _ _ st1 λb hb o e=>(br _ _ (λh:S=b=>hSf (by rw[h];exact hb))).trans e) Y λh' c' a1 a2=>?_
  ·exact hR h' c' (λb o O J e=>a1 b o O J ((br _ _ (cE O)).trans (k1 b o J e))) a2
theorem collectT{p:Addr}{es:Array (Int×ab)}{ep:Nat}{t:a6}{Q:List ab->ag->Prop}(hh:A.handled=none)(hp:s.heap.get? p=some (setOb es ep t))(hf:t.fits es.size=true)(hled:t.led=ledOf w)(hpl:t.plain=true->es.size<=1)(hn:es.size<=300)
  (h:∀vals h' d,vals.Perm (es.toList.map (·.2))->(∀b o,s.heap.get? b=some o->h'.get? b=some o)->Q vals {s with heap:=h',drawn:=d}):aE (aF prog w) A (collect (.ref p)) Q E s:=by
 have U:=aC hp;have hT:∀s':ag,s'.heap.get? p=some (setOb es ep t)->s'.TypeIs (.ref p) "set":=λs' e=>⟨_,e,rfl⟩;refine aa (wpAny_runValue (ci PySem.F.entry_proto_collect ?_));rw[bJ PySem.F.plain_proto_collect _];refine aa (bi ?_);refine ad ⟨dh jS _,ci PySem.F.entry_list_iadd ?_⟩;rw[bJ jS _];show aE _ A.in1 (iS (.ref s.heap.objs.size) (.ref p) (.ref s.heap.objs.size)) _ _ _;generalize J:s.heap.push _=h1;have old:∀b o,s.heap.get? b=some o->h1.get? b=some o:=λb o e=>by rw[<- J];exact ae _ e
 have O:h1.objs.size=s.heap.objs.size+1:=by rw[<- J,cB]
 have hS1:h1.get? s.heap.objs.size=some {cls:=.type "list",dict:=none,data:=.seq #[] 0,slots:=#[]}:=by rw[<- J];exact aq _ rfl
 have D:=old p _ hp;refine aa (g8 (hT {s with heap:=h1} D) ?_)
 have e1:jG (.ref s.heap.objs.size) (.ref p)=false:=by simp[jG,Nat.ne_of_gt U]
 rw[if_neg (by rw[e1];decide)]
 refine aa (gZu hh D hf hled hpl hn λI fp vals St h2 d B G st2 hI hfp k2=>?_)
 have hvl:vals.length=es.size:=by have:=B.length_eq;simpa using this
 have hI':=hI;have hSI:s.heap.objs.size≠I:=by lia
 refine aa (bS (eXx (k2 p _ D) ?_));have Y:s.heap.objs.size∉fp:=λz=>by
  have q:=hfp _ z;have q':=q;rcases q' with e|e
  ·exact absurd e (Nat.ne_of_gt U)
  ·rw[O] at e;exact absurd e (Nat.not_succ_le_self _)
 refine iO (λ_=>?_) (λhc=>absurd (by decide +kernel) hc)
 refine aa (dA ?_);refine aa ?_;have hS2:=k2 _ _ hS1;refine aa (fQ hS2 rfl ?_);have Z:=cT (cf (·.push bZ)) hS2 rfl;refine fQ Z rfl ?_
 have hS4:=cT (cf (·.pop)) Z rfl;refine ad ⟨dh eY _,?_⟩;refine dJe G (by lia) Y _ (vals.length-0) 0 _ _ rfl (Nat.zero_le _) (G.frame _ _ _ st2 λb hb o e=>?_) hS4 λh' c' a1 a2=>?_
 ·have j:b≠s.heap.objs.size:=λz=>Y (z▸hb);exact(br _ _ (cE j)).trans ((br _ _ (cE j)).trans e)
 ·refine aa (wpAny_load a2 ?_)
  have:=h vals h' d B λb o e=>?_
  ·exact ad this
  ·have j:=Nat.ne_of_lt (aC e);have hbI:=Nat.ne_of_lt (Nat.lt_of_lt_of_le (aC e) (Nat.le_trans (by rw[O];exact Nat.le_succ _) hI'))
   exact a1 b o j hbI ((br _ _ (cE j)).trans ((br _ _ (cE j)).trans (k2 b o (old b o e))))
end
end ST
namespace KS
open PySem PySem.W PyProof.Rows
def TS(h:bb)(v:ab)(d:List Str):Prop:=∃b items,v=.ref b/\gE h b items/\HT.SAre items.toList d
section
variable{prog:ax}{w:aK}{A:aU}{E:ab->ag->Prop}{s:ag}
theorem eQu:∀{us vs:List ab}{d e:List Str}(i:Nat) {fin:Bool},HT.SAre us d->HT.SAre vs e->fin=decide (d.length<e.length)->Q (HT.lexS d e) s->KatLex prog w A true fin Q (us.zip vs) i s
 |_,_,_,_,i,fin,.nil,.nil,hf,h=>by subst hf;exact kat_nil h
 |_,_,_,_,i,fin,.nil,.cons _ _,hf,h=>by
  subst hf;rw[fZ];rw[HT.lexS_nil_cons] at h;exact kat_nil (by simpa using h)
 |_,_,_,_,i,fin,.cons _ _,.nil,hf,h=>by
  subst hf;rw[d8];rw[HT.lexS_cons_nil] at h;exact kat_nil (by simpa using h)
 |_,_,x::d,y::e,i,fin,.cons ⟨t,B⟩ p,.cons ⟨u,j⟩ q,hf,h=>by
  subst B j;rw[cI];rw[HT.lexS_cons] at h;refine kat_cons (je x t y u _ _ _ _ ?_);refine kat_go (λz=>kat_yes (eQu (i+1) p q (by subst hf;simp) (by rw[if_pos (by simpa using z)] at h;exact h))) λz=>kat_no ?_
  rw[if_neg (by simpa using z)] at h
  cases i with
  |zero=>exact oneLt_str h
  |succ i =>
   exact kat_one _ _ (kK (h))
theorem dQn(hx:TS s.heap x d)(hy:TS s.heap y e)(h:Q (HT.lexS d e) s):aE (aF prog w) A (keyLt' (tuples' true) x y) Q E s:=by
 obtain⟨b,items,rfl,⟨o,G,_,n,hd⟩,p⟩:=hx;obtain⟨U,j,rfl,⟨J,z,_,O,hd2⟩,p2⟩:=hy;refine kat_lt G hd z hd2 (eQu 0 p p2 ?_ h);have D:=p.len;have B:=p2.len;simp only[aW] at D B;rw[D,B]
theorem cXz(hu:A.units<bN)(hx:TS s.heap x d)(hy:TS s.heap y e)(h:Q (HT.lexS d e) s):aE (aF prog w) A (keyLt' general' x y) Q E s:=by
 obtain⟨b,items,rfl,t1,p⟩:=hx;obtain⟨B,j,rfl,z,p2⟩:=hy;exact kat_one _ _ (HT.lt_tupStrs t1 z p p2 hu (h))
theorem fXt(hu:A.units<bN)(hx:TS s.heap x d)(hy:TS s.heap y e)(h:Q (HT.lexS d e) s):aE (aF prog w) A (keyLt' oneType' x y) Q E s:=by
 obtain⟨b,items,rfl,t1,p⟩:=hx;obtain⟨b2,j,rfl,Y,p2⟩:=hy;rw[keyLt'_oneType,oneLt'_eq];simp only[if_true];obtain⟨⟨cls,dd,data,sl⟩,G,O,n,hd⟩:=id t1;obtain⟨⟨U,J,data2,B⟩,D,z,Z,hd2⟩:=id Y;simp only at O hd z hd2;subst O hd z hd2;refine aa (wpAny_cRoomFor hu ?_);refine aa (wpAny_callSpecialIfBound?_slot ⟨_,G,rfl⟩ fU (call_meets fU ⟨_,G,rfl⟩ ic (gX _ _) (HT.tuple_lt_strs b b2 items j n Z dd J sl B d e p p2) ⟨G,D,?_⟩));exact cU h
theorem bJj:∀{vs:List ab}{ds:List (List Str)}{Q:List (Option ab)->ag->Prop},aZ (TS s.heap) vs ds->(∀fs:List (Option ab),aZ (λf d=>match f with|none=>d=[]|some v=>∃x r t,d=x::r/\v=.str x t) fs ds->Q fs s)->aE (aF prog w) A (vs.mapM firstOfTuple') Q E s
 |_,_,_,.nil,h=>by rw[List.mapM_nil];exact ad (h [] .nil)
 |_,_,Q,.cons p q,h=>by
  obtain⟨b,items,rfl,⟨o,j,D,n,hd⟩,sa⟩:=p;rw[List.mapM_cons];refine aa ?_;rw[kas_first_eq];refine aa (Looks.here ((Looks.ld j).andThen .now) ?_)
  rw[D,if_neg (by first|decide|simp)]
  refine aa (listItems_at j hd (ad ?_));refine aa (bJj q λfs pf=>ad (h _ (.cons ?_ pf)));obtain⟨items⟩:=items;have sa:=sa;have e:(Array.mk items)[0]?=items[0]?:=by simp
  rw[e];cases sa with
  |nil=>rfl
  |cons z _=>obtain⟨t,B⟩:=z;exact⟨_,_,t,rfl,B⟩
theorem eXz(p:aZ (TS s.heap) vs ds)(hne:vs≠[])(h:∀κ,κ=tuples' true\/κ=general'\/κ=oneType'->Q κ s):aE (aF prog w) A (keyKind' vs.toArray) Q E s:=by
 rw[kat_kind_eq,jv,map_eq_pure_bind];refine aa (aa (bJj p λfs pf=>ad ?_))
 by_cases j:(fs.toArray.all λx=>x.isSome)=true
 ·rw[if_pos j];refine aa (dA ?_);rw[oneTypeOnly'_eq];have J:∀v∈(fs.toArray.filterMap id).toList,∃x t,v=.str x t:=λv J=>by
   simp only[Array.toList_filterMap,eT,id] at J;obtain⟨f,hf,rfl⟩:=J
   have:∀{fs:List (Option ab)}{ds:List (List Str)},aZ (λf d=>match f with|none=>d=[]|some v=>∃x r t,d=x::r/\v=.str x t) fs ds->some v∈fs->∃x t,v=.str x t:=by
    intro fs ds pf
    induction pf with
    |nil=>intro hm;cases hm
    |cons z _ O =>
     intro hm;rcases av.mp hm with e|hm
     ·subst e;obtain⟨x,r,t,_,e⟩:=z;exact⟨x,t,e⟩
     ·exact O hm
   exact this pf hf
  have B:(fs.toArray.filterMap id).toList≠[]:=by
   have Y:fs.length=vs.length:=by have:=bL p;have:=bL pf;lia
   cases fs with
   |nil=>exact absurd (b7 (by simpa using Y.symm)) hne
   |cons f fs =>
    simp only[List.all_toArray,iH,aV] at j;obtain⟨v,rfl⟩:=bM.mp j.1;simp
  generalize (fs.toArray.filterMap id)=gs at J B;obtain⟨gs⟩:=gs;rw[jv,map_eq_pure_bind];refine aa (aa (aa (kas_mapM (r:=db "str") gs (λv D Q' U=>?_) (ad ?_))))
  ·obtain⟨x,t,rfl⟩:=J v D;exact ad U
  ·obtain⟨g,gr,rfl⟩:∃g gr,gs=g::gr:=by
    cases gs with
    |nil=>exact absurd rfl B
    |cons g gr=>exact⟨g,gr,rfl⟩
   have h0:(List.map (λ_=>db "str") (g::gr)).toArray[0]?=some (db "str"):=by simp
   have G:((List.map (λ_=>db "str") (g::gr)).toArray.all λx=>x==db "str")=true:=by
    simp only[List.all_toArray,gv,bI];intro _ _;simp
   rw[h0];simp only[G,if_true];exact ad (ad (h _ (.inl rfl)))
 ·rw[if_neg j]
  by_cases h1:((fs.toArray[0]?.bind id).isSome)=true
  ·rw[if_pos h1];exact ad (h _ (.inr (.inl rfl)))
  ·rw[if_neg h1,oneTypeOnly'_eq,jv,map_eq_pure_bind];refine aa (aa (aa (kas_mapM (r:=db "tuple") vs (λv D Q' U=>?_) (ad ?_))))
   ·have:∀{vs:List ab}{ds:List (List Str)},aZ (TS s.heap) vs ds->v∈vs->∃d,TS s.heap v d:=by
     intro vs ds pp
     induction pp with
     |nil=>intro hm;cases hm
     |cons z _ O =>
      intro hm;rcases av.mp hm with e|hm
      ·subst e;exact⟨_,z⟩
      ·exact O hm
    obtain⟨d,b,items,rfl,⟨o,Z,hc,_⟩,_⟩:=this p D;refine Looks.here (?_) U
    rw[<- hc];exact(Looks.ld Z).andThen .now
   ·generalize (List.map (λ_=>db "tuple") vs).toArray=ts;cases ts[0]? with
    |none=>exact ad (ad (by first|exact h _ (.inr (.inl rfl))|exact h _ (.inr (.inr rfl))))
    |some t =>
     by_cases h2:(ts.all (· ==t))=true
     ·simp only[h2,if_true];exact ad (ad (h _ (.inr (.inr rfl))))
     ·simp only[h2,if_false];exact ad (ad (h _ (.inr (.inl rfl))))
end
end KS
namespace SF
open PySem PyProof.Rows
abbrev SM:=StateT c7 Sem
def gal:Bool->aO->Array aO->Nat->Nat->Nat->SM (Option Nat):=sortPriv% PySem.Builtin.gallop
def mLo:Array aO->Array aO->SM (Array aO):=sortPriv% PySem.Builtin.mergeLo
def mHi:Array aO->Array aO->SM (Array aO):=sortPriv% PySem.Builtin.mergeHi
abbrev setG(st:c7)(g:Nat):c7:=jg (kindOf st) (aT st) (bY st) g (gh st)
def bey(lf:Bool)(key:aO)(arr:Array aO)(b0 i:Nat):SM (Option Bool):=do
 let x <- eU arr (b0+i)
 if lf then lt' x key else return (<- lt' key x).map (!·)
theorem fXu(lf:Bool)(key:aO)(arr:Array aO)(b0 n at0:Nat):gal lf key arr b0 n at0=(do
 let mut lastofs:=0
 let mut ofs:=1
 let mut lo:=0
 let mut hi:=0
 let some rt <- bey lf key arr b0 at0|return none
 if rt then
  let mx:=n-at0
  for _ in [0:n] do
   if ofs>=mx then break
   let some m1 <- bey lf key arr b0 (at0+ofs)|return none
   if !m1 then break
   lastofs:=ofs
   ofs:=2*ofs+1
  lo:=at0+lastofs+1
  hi:=at0+min ofs mx
 else
  let mx:=at0+1
  for _ in [0:n] do
   if ofs>=mx then break
   let some f1 <- bey lf key arr b0 (at0-ofs)|return none
   if f1 then break
   lastofs:=ofs
   ofs:=2*ofs+1
  lo:=at0+1-min ofs mx
  hi:=at0-lastofs
 for _ in [0:n] do
  if lo>=hi then break
  let m:=lo+(hi-lo)/2
  let some m2 <- bey lf key arr b0 m|return none
  if m2 then lo:=m+1 else hi:=m
 return some hi):=rfl
theorem fXv(a b:Array aO):mLo a b=(do
 rule "list.sort.merge-lo"
 let total:=a.size+b.size
 let fin (o:Array aO) (ia ib:Nat):=o++a.extract ia a.size++b.extract ib b.size
 let lst (o:Array aO) (ia ib:Nat):=o++b.extract ib b.size++a.extract ia a.size
 let mut out:Array aO:=#[<- eU b 0]
 let mut ia:=0
 let mut ib:=1
 if ib==b.size then return fin out ia ib
 if ia+1==a.size then return lst out ia ib
 let mut minGallop:=gallopOf (<- get)
 for _ in [0:total] do
  let mut acount:=0
  let mut bcount:=0
  for _ in [0:total] do
   let some bw <- lt' (<- eU b ib) (<- eU a ia)|return fin out ia ib
   if bw then
    out:=out.push (<- eU b ib)
    ib:=ib+1
    bcount:=bcount+1
    acount:=0
    if ib==b.size then return fin out ia ib
    if bcount>=minGallop then break
   else
    out:=out.push (<- eU a ia)
    ia:=ia+1
    acount:=acount+1
    bcount:=0
    if ia+1==a.size then return lst out ia ib
    if acount>=minGallop then break
  rule "list.sort.gallop"
  minGallop:=minGallop+1
  for _ in [0:total] do
   if minGallop>1 then minGallop:=minGallop-1
   modify (λs=>setG s minGallop)
   let some k <- gal false (<- eU b ib) a ia (a.size-ia) 0|return fin out ia ib
   acount:=k
   if k>0 then
    out:=out++a.extract ia (ia+k)
    ia:=ia+k
    if ia+1==a.size then return lst out ia ib
    if ia==a.size then return fin out ia ib
   out:=out.push (<- eU b ib)
   ib:=ib+1
   if ib==b.size then return fin out ia ib
   let some k <- gal true (<- eU a ia) b ib (b.size-ib) 0|return fin out ia ib
   bcount:=k
   if k>0 then
    out:=out++b.extract ib (ib+k)
    ib:=ib+k
    if ib==b.size then return fin out ia ib
   out:=out.push (<- eU a ia)
   ia:=ia+1
   if ia+1==a.size then return lst out ia ib
   if acount<7&&bcount<7 then break
  minGallop:=minGallop+1
  modify (λs=>setG s minGallop)
 fH "internal:list.sort.merge-bound"):=rfl
structure Orc(prog:ax)(w:aK)(A:aU)(s:ag)(κ:fE)(P:aO->Prop)(lt:aO->aO->Bool):Prop where
 ask:∀x y (Q:Bool->ag->Prop),P x->P y->Q (lt x y) s->aE (aF prog w) A (keyLt' κ x.1 y.1) Q (λ_ _=>False) s
 as:∀x y,P x->P y->lt x y=true->lt y x=false
 tr:∀x y z,P x->P y->P z->lt y x=false->lt z y=false->lt z x=false
section
variable{prog:ax}{w:aK}{A:aU}{E:ab->ag->Prop}{s:ag}{κ:fE}{P:aO->Prop}{lt:aO->aO->Bool}
theorem dQo(o:Orc prog w A s κ P lt){st:c7}{x y:aO}{Q:Option Bool->c7->Prop}(hk:kindOf st=κ)(hx:P x)(hy:P y)(h:Q (some (lt x y)) st):wpS (aF prog w) A E s (lt' x y) Q st:=by
 rw[lt'_eq];refine aA (iT ?_);rw[hk];refine aA (jh (iG (dw (o.ask x y (λb s'=>s'=s/\b=lt x y) hx hy ⟨rfl,rfl⟩) (λb s' j=>?_) λ_ _ z=>z.elim)));obtain⟨rfl,rfl⟩:=j;exact⟨rfl,aG h⟩
theorem aZa{st:c7}(hx:arr[i]?=some x)(h:Q x st):wpS (aF prog w) A E s (eU arr i) Q st:=by
 rw[elem'_eq,hx];exact aG h
def bv(lt:aO->aO->Bool)(lf:Bool)(key x:aO):Bool:=if lf then lt x key else !lt key x
theorem bJk(o:Orc prog w A s κ P lt){st:c7}{lf:Bool}{key x:aO}{arr:Array aO}{b0 i:Nat}{Q:Option Bool->c7->Prop}(hk:kindOf st=κ)(hkey:P key)(hx:arr[b0+i]?=some x)(px:P x)(h:Q (some (bv lt lf key x)) st):wpS (aF prog w) A E s (bey lf key arr b0 i) Q st:=by
 refine aA (aZa hx ?_);cases lf with
 |true=>exact dQo o hk px hkey h
 |false=>exact aA (dQo o hk hkey px (aG h))
theorem eQv{st:c7}{b:Nat->Bool}{n lo hi:Nat}{body:Nat->Option (Option Nat)×Nat×Nat->SM (ForInStep (Option (Option Nat)×Nat×Nat))}
  (hb:∀x lo hi (Q':ForInStep (Option (Option Nat)×Nat×Nat)->c7->Prop),hi<=n->(hi<=lo->Q' (.done (none,lo,hi)) st)->(lo<hi->b (lo+(hi-lo)/2)=true->Q' (.yield (none,lo+(hi-lo)/2+1,hi)) st)->(lo<hi->b (lo+(hi-lo)/2)=false->Q' (.yield (none,lo,lo+(hi-lo)/2)) st)->wpS (aF prog w) A E s (body x (none,lo,hi)) Q' st)
  (mono:∀i j,i<=j->j<n->b j=true->b i=true) (h1:lo<=hi) (h2:hi<=n) (h3:∀i,i<lo->b i=true) (h4:∀i,hi<=i->i<n->b i=false)
  (h:∀k,k<=n->(∀i,i<k->b i=true)->(∀i,k<=i->i<n->b i=false)->Q (none,k,k) st):wpS (aF prog w) A E s (forIn [0:n] ((none,lo,hi)) body) Q st:=by
 refine dG (ca (I:=λx c z=>z=st/\∃ lo hi,c=(none,lo,hi)/\lo<=hi/\hi<=n/\hi + x<=lo + n/\(∀ i,i < lo->b i=true)/\∀ i,hi<=i->i < n->b i=false)
  (Q:=λc z=>z=st/\∃lo hi,c=(none,lo,hi)/\hi<=lo/\lo<=hi/\hi<=n/\(∀i,i<lo->b i=true)/\∀i,hi<=i->i<n->b i=false) ?_ ?_ ⟨rfl,lo,hi,rfl,h1,h2,by omega,h3,h4⟩) ?_
 ·rintro x c z _ U ⟨rfl,lo,hi,rfl,a1,a2,O,D,B⟩;refine hb x lo hi _ a2 (λG=>⟨rfl,lo,hi,rfl,G,a1,a2,D,B⟩) (λG e=>⟨rfl,_,_,rfl,by lia,a2,by lia,λi J=>mono i _ (by lia) (by lia) e,B⟩) λG e=>⟨rfl,_,_,rfl,by lia,by lia,by lia,D,λi h1 h2=>?_⟩
  cases e2:b i with
  |false=>rfl
  |true=>rw[mono _ i h1 h2 e2] at e;cases e
 ·rintro c z ⟨rfl,lo,hi,rfl,a1,a2,O,D,B⟩;exact⟨rfl,lo,hi,rfl,by lia,a1,a2,D,B⟩
 ·rintro c z ⟨rfl,lo,hi,rfl,a0,a1,a2,D,B⟩
  have:lo=hi:=by lia
  subst this;exact h lo a2 D B
theorem bZq(o:Orc prog w A s κ P lt){st:c7}{lf:Bool}{key:aO}{arr:Array aO}{b0 n at0:Nat}{f:Nat->aO}{Q:Option Nat->c7->Prop}(hk:kindOf st=κ)(hkey:P key)
  (hf:∀i,i<n->arr[b0+i]?=some (f i)/\P (f i)) (mono:∀i j,i<=j->j<n->bv lt lf key (f j)=true->bv lt lf key (f i)=true) (h0:at0<n)
  (h:∀k,k<=n->(∀i,i<k->bv lt lf key (f i)=true)->(∀i,k<=i->i<n->bv lt lf key (f i)=false)->Q (some k) st):wpS (aF prog w) A E s (gal lf key arr b0 n at0) Q st:=by
 rw[fXu];have up:∀i j,i<=j->j<n->bv lt lf key (f i)=false->bv lt lf key (f j)=false:=λi j h1 h2 h3=>by
  cases e:bv lt lf key (f j) with
  |false=>rfl
  |true=>rw[mono i j h1 h2 e] at h3;cases h3
 refine aA (bJk o hk hkey (hf at0 h0).1 (hf at0 h0).2 ?_);dsimp only;cases e0:bv lt lf key (f at0) with
 |true =>
  rw[if_pos rfl];refine aA (dG (ca (I:=λx c D=>D=st/\∃ l B,c=(none,l,B)/\l < B/\x + 1<=B/\at0 + l < n/\bv lt lf key (f (at0 + l))=true)
   (Q:=λc D=>D=st/\∃l B,c=(none,l,B)/\l<B/\at0+l<n/\bv lt lf key (f (at0+l))=true/\(n-at0<=B\/(at0+B<n/\bv lt lf key (f (at0+B))=false))) ?_ ?_ ⟨rfl,0,1,rfl,by decide,by decide,h0,e0⟩) ?_)
  ·rintro x c D _ hx ⟨rfl,l,B,rfl,a1,a2,O,J⟩;by_cases G:B>=n-at0
   ·rw[if_pos G];exact aG ⟨rfl,l,B,rfl,a1,O,J,.inl G⟩
   ·rw[if_neg G];have hm:at0+B<n:=by omega
    refine aA (bJk o hk hkey (hf _ hm).1 (hf _ hm).2 ?_);dsimp only;cases e:bv lt lf key (f (at0+B)) with
    |true=>rw[if_neg (by simp)];exact aG ⟨rfl,B,_,rfl,by omega,by omega,hm,e⟩
    |false=>rw[if_pos (by rfl)];exact aG ⟨rfl,l,B,rfl,a1,O,J,.inr ⟨hm,e⟩⟩
  ·rintro c D ⟨rfl,l,B,rfl,a1,a2,O,J⟩;exact⟨rfl,l,B,rfl,a1,O,J,.inl (by omega)⟩
  ·rintro c D ⟨rfl,l,B,rfl,a1,O,J,a5⟩;have H4:∀i,at0+min B (n-at0)<=i->i<n->bv lt lf key (f i)=false:=λi h1 h2=>by
    rcases a5 with z|⟨z1,U⟩
    ·omega
    ·exact up (at0+B) i (by omega) h2 U
   refine aA (eQv (lo:=at0+l+1) (hi:=at0+min B (n-at0)) (λx lo hi Q' hn q1 Z Y=>?_) mono (by omega) (by omega) (λi hi=>mono i (at0+l) (by omega) O J) H4 λk k1 k2 k3=>aG (h k k1 k2 k3))
   by_cases G:lo>=hi
   ·rw[if_pos G];exact aG (q1 G)
   ·rw[if_neg G];have hm:lo+(hi-lo)/2<n:=by lia
    refine aA (bJk o hk hkey (hf _ hm).1 (hf _ hm).2 ?_);dsimp only;cases e:bv lt lf key (f (lo+(hi-lo)/2)) with
    |true=>rw[if_pos rfl];exact aG (Z (by omega) e)
    |false=>rw[if_neg (by simp)];exact aG (Y (by omega) e)
 |false =>
  rw[if_neg (by simp)]
  refine aA (dG (ca (I:=λx c D=>D=st/\∃ l B,c=(none,l,B)/\l < B/\x + 1<=B/\l<=at0/\bv lt lf key (f (at0 - l))=false)
   (Q:=λc D=>D=st/\∃l B,c=(none,l,B)/\l<B/\l<=at0/\bv lt lf key (f (at0-l))=false/\(at0+1<=B\/(B<=at0/\bv lt lf key (f (at0-B))=true))) ?_ ?_ ⟨rfl,0,1,rfl,by decide,by decide,Nat.zero_le _,e0⟩) ?_)
  ·rintro x c D _ hx ⟨rfl,l,B,rfl,a1,a2,O,J⟩;by_cases G:B>=at0+1
   ·rw[if_pos G];exact aG ⟨rfl,l,B,rfl,a1,O,J,.inl G⟩
   ·rw[if_neg G];have hm:at0-B<n:=by omega
    refine aA (bJk o hk hkey (hf _ hm).1 (hf _ hm).2 ?_);dsimp only;cases e:bv lt lf key (f (at0-B)) with
    |true=>rw[if_pos rfl];exact aG ⟨rfl,l,B,rfl,a1,O,J,.inr ⟨by omega,e⟩⟩
    |false=>rw[if_neg (by simp)];exact aG ⟨rfl,B,_,rfl,by omega,by lia,by lia,e⟩
  ·rintro c D ⟨rfl,l,B,rfl,a1,a2,O,J⟩;exact⟨rfl,l,B,rfl,a1,O,J,.inl (by lia)⟩
  ·rintro c D ⟨rfl,l,B,rfl,a1,O,J,a5⟩;have H3:∀i,i<at0+1-min B (at0+1)->bv lt lf key (f i)=true:=λi hi=>by
    rcases a5 with z|⟨z1,U⟩
    ·lia
    ·exact mono i (at0-B) (by lia) (by lia) U
   refine aA (eQv (λx lo hi Q' hn q1 Z Y=>?_) mono (by lia) (by lia) H3 (λi h1 h2=>up (at0-l) i h1 h2 J) λk k1 k2 k3=>aG (h k k1 k2 k3))
   by_cases G:lo>=hi
   ·rw[if_pos G];exact aG (q1 G)
   ·rw[if_neg G];have hm:lo+(hi-lo)/2<n:=by lia
    refine aA (bJk o hk hkey (hf _ hm).1 (hf _ hm).2 ?_);dsimp only;cases e:bv lt lf key (f (lo+(hi-lo)/2)) with
    |true=>rw[if_pos rfl];exact aG (Z (by lia) e)
    |false=>rw[if_neg (by simp)];exact aG (Y (by lia) e)
end
def Sd{α:Type}(lt:α->α->Bool)(l:List α):Prop:=l.Pairwise λx y=>lt y x=false
structure Iv{α:Type}(lt:α->α->Bool)(T out rest:List α):Prop where
 perm:(out++rest).Perm T
 sd:Sd lt out
 lo:∀x∈out,∀y∈rest,lt y x=false
section
variable{α:Type}{lt:α->α->Bool}{T out rest:List α}
theorem Iv.step(h:Iv lt T out rest){xs rest':List α}(hp:rest.Perm (xs++rest'))(hs:Sd lt xs)(hl:∀x∈xs,∀y∈rest',lt y x=false):Iv lt T (out++xs) rest':=by
 refine⟨?_,a9.mpr ⟨h.sd,hs,λx B y j=>h.lo x B y (hp.mem_iff.mpr (cZ _ j))⟩,λx B y j=>?_⟩
 ·rw[be];exact(eW out hp.symm).trans h.perm
 ·rcases aY.mp B with z|z
  ·exact h.lo x z y (hp.mem_iff.mpr (bz _ j))
  ·exact hl x z y j
theorem Iv.done(h:Iv lt T out rest)(hs:Sd lt rest):Sd lt (out++rest)/\(out++rest).Perm T:=⟨a9.mpr ⟨h.sd,hs,h.lo⟩,h.perm⟩
theorem Iv.perm'(h:Iv lt T out rest){rest':List α}(hp:rest.Perm rest'):Iv lt T out rest':=⟨(eW out hp.symm).trans h.perm,h.sd,λx z y j=>h.lo x z y (hp.mem_iff.mpr j)⟩
theorem Iv.size(h:Iv lt T out rest):out.length+rest.length=T.length:=by rw[<- au];exact h.perm.length_eq
theorem cQk{l:List α}(h:l[i]?=some x):l.drop i=x::l.drop (i+1):=by
 have hi:=(aH.mp h).1;rw[cj hi]
 congr 1
 exact(aH.mp h).2
theorem Sd.drop(h:Sd lt l)(i:Nat):Sd lt (l.drop i):=h.sublist (List.drop_sublist _ _)
theorem Sd.at(h:Sd lt l){i j:Nat}{x y:α}(hij:i<j)(hx:l[i]?=some x)(hy:l[j]?=some y):lt y x=false:=by
 obtain⟨h1,B⟩:=aH.mp hx;obtain⟨h2,z⟩:=aH.mp hy
 have:=bT.mp h i j h1 h2 hij
 rw[B,z] at this;exact this
theorem aQp{l:List α}(h:y∈l.drop i):∃j,i<=j/\l[j]?=some y:=by
 obtain⟨k,z,e⟩:=bd h;rw[hZ] at e;rw[bR] at z;exact⟨i+k,by lia,by rw[af (by lia),e]⟩
end
section
variable{prog:ax}{w:aK}{A:aU}{s:ag}{κ:fE}{P:aO->Prop}{lt:aO->aO->Bool}{T out la lb:List aO}{ia ib:Nat}{x y:aO}
theorem bJl(o:Orc prog w A s κ P lt){l:List aO}(hP:∀z∈l,P z)(hs:Sd lt l){i:Nat}{z:aO}(hz:P z){y:aO}(hy:l[i]?=some y)(h:lt y z=false):∀u∈l.drop i,lt u z=false:=λu D=>by
 obtain⟨j,G,e⟩:=aQp D;rcases Nat.eq_or_lt_of_le G with rfl|B
 ·rw[hy] at e;cases e;exact h
 ·exact o.tr z y u hz (hP y (am hy)) (hP u (am e)) h (hs.at B hy e)
theorem Iv.pushB(h:Iv lt T out (la.drop ia++lb.drop ib))(sb:Sd lt lb)(hy:lb[ib]?=some y)(hl:∀u∈la.drop ia,lt u y=false):Iv lt T (out++[y]) (la.drop ia++lb.drop (ib+1)):=by
 refine h.step ?_ (bj _ _) λx B u D=>?_
 ·rw[cQk hy];exact gq
 ·rw[aJ.mp B];rcases aY.mp D with z|z
  ·exact hl u z
  ·obtain⟨j,G,e⟩:=aQp z;exact sb.at (by lia) hy e
theorem Iv.pushA(h:Iv lt T out (la.drop ia++lb.drop ib))(sa:Sd lt la)(hx:la[ia]?=some x)(hl:∀u∈lb.drop ib,lt u x=false):Iv lt T (out++[x]) (la.drop (ia+1)++lb.drop ib):=by
 refine h.step ?_ (bj _ _) λz B u D=>?_
 ·rw[cQk hx];exact dJ _
 ·rw[aJ.mp B];rcases aY.mp D with z|z
  ·obtain⟨j,G,e⟩:=aQp z;exact sa.at (by lia) hx e
  ·exact hl u z
theorem Iv.blockA(h:Iv lt T out (la.drop ia++lb.drop ib))(sa:Sd lt la)(k:Nat)(hl:∀z∈(la.drop ia).take k,∀u∈lb.drop ib,lt u z=false):Iv lt T (out++(la.drop ia).take k) (la.drop (ia+k)++lb.drop ib):=by
 have e:la.drop ia=(la.drop ia).take k++la.drop (ia+k):=by rw[<- List.drop_drop];exact(bA k _).symm
 have sd:=sa.drop ia;rw[e] at sd;obtain⟨s1,_,s3⟩:=a9.mp sd;refine h.step ?_ s1 λz j u B=>?_
 ·rw[<- be,<- e]
 ·rcases aY.mp B with v|v
  ·exact s3 z j u v
  ·exact hl z j u v
theorem Iv.blockB(h:Iv lt T out (la.drop ia++lb.drop ib))(sb:Sd lt lb)(k:Nat)(hl:∀z∈(lb.drop ib).take k,∀u∈la.drop ia,lt u z=false):Iv lt T (out++(lb.drop ib).take k) (la.drop ia++lb.drop (ib+k)):=by
 have e:lb.drop ib=(lb.drop ib).take k++lb.drop (ib+k):=by rw[<- List.drop_drop];exact(bA k _).symm
 have sd:=sb.drop ib;rw[e] at sd;obtain⟨s1,_,s3⟩:=a9.mp sd;refine h.step ?_ s1 λz j u B=>?_
 ·have D:la.drop ia++lb.drop ib=la.drop ia++((lb.drop ib).take k++lb.drop (ib+k)):=by rw[<- e]
  rw[D,<- be,<- be];exact eM _ d4
 ·rcases aY.mp B with v|v
  ·exact hl z j u v
  ·exact s3 z j u v
theorem aZx{l:List aO}(h:z∈(l.drop i).take k):∃j,j<k/\l[i+j]?=some z:=by
 obtain⟨j,B,e⟩:=bd h;rw[aP,bR] at B;rw[fW,hZ] at e;exact⟨j,by lia,by rw[af (by lia),e]⟩
end
theorem aZl(a:Array aO)(i j:Nat):(a.extract i j).toList=(a.toList.drop i).take (j-i):=by simp
theorem cQl(a:Array aO)(i:Nat):(a.extract i a.size).toList=a.toList.drop i:=by
 rw[aZl];exact bQ (by rw[bR];simp)
end SF
theorem hd{g:Prop}(h:∀G:Prop,(g->G)->G):g:=h g id
namespace SF
open PySem PyProof.Rows
section
variable{prog:ax}{w:aK}{A:aU}{E:ab->ag->Prop}{s:ag}{κ:fE}{P:aO->Prop}{lt:aO->aO->Bool}
theorem aQe{a:Array aO}(h:i<a.size):∃x,a[i]?=some x/\a.toList[i]?=some x:=⟨a[i],by simp[h],by simp[h]⟩
theorem aQy{di:Decidable c}{X Y:StateT σ Sem α}{Q:α->σ->Prop}{st:σ}(hc:c)(h:wpS M A E s X Q st):wpS M A E s (@ite _ c di X Y) Q st:=by rw[if_pos hc];exact h
theorem aQz{di:Decidable c}{X Y:StateT σ Sem α}{Q:α->σ->Prop}{st:σ}(hc:¬ c)(h:wpS M A E s Y Q st):wpS M A E s (@ite _ c di X Y) Q st:=by rw[if_neg hc];exact h
theorem eQw{c:Nat->Prop}{di:∀n,Decidable (c n)}{X Y:Nat->StateT σ Sem α}{Q:α->σ->Prop}{st:σ}(e:∀n,X n=Y (n-1))(h:∀m,wpS M A E s (Y m) Q st)(n:Nat):wpS M A E s (@ite _ (c n) (di n) (X n) (Y n)) Q st:=by
 split
 ·rw[e];exact h _
 ·exact h _
theorem fXw(o:Orc prog w A s κ P lt){st:c7}{a b:Array aO}{Q:Array aO->c7->Prop}(hk:kindOf st=κ)(pa:∀x∈a.toList,P x)(pb:∀y∈b.toList,P y)(sa:Sd lt a.toList)(sb:Sd lt b.toList)(na:1<=a.size)(nb:1<=b.size)
  (hfst:∀y,b.toList[0]?=some y->∀x∈a.toList,lt x y=false) (hlst:∀z,a.toList[a.size-1]?=some z->∀y∈b.toList,lt z y=false)
  (h:∀out g,Sd lt out.toList->out.toList.Perm (a.toList++b.toList)->Q out (setG st g)):wpS (aF prog w) A E s (mLo a b) Q st:=by
 have sz:(a.toList++b.toList).length=a.size+b.size:=by simp
 have finA:∀(out:Array aO) ia ib g,ib=b.size->Iv lt (a.toList++b.toList) out.toList (a.toList.drop ia++b.toList.drop ib)->Q (out++a.extract ia a.size++b.extract ib b.size) (setG st g):=λout ia ib g e iv=>by
  have e0:b.toList.drop ib=[]:=bE (by simp[e])
  rw[e0,ce] at iv
  have:=iv.done (sa.drop ia)
  refine h _ g ?_ ?_ <;> simp only[cL,cQl,e0,ce]
  ·exact this.1
  ·exact this.2
 have finB:∀(out:Array aO) ia ib g,ia=a.size->Iv lt (a.toList++b.toList) out.toList (a.toList.drop ia++b.toList.drop ib)->Q (out++a.extract ia a.size++b.extract ib b.size) (setG st g):=λout ia ib g e iv=>by
  have e0:a.toList.drop ia=[]:=bE (by simp[e])
  rw[e0,bW] at iv
  have:=iv.done (sb.drop ib)
  refine h _ g ?_ ?_ <;> simp only[cL,cQl,e0,ce]
  ·exact this.1
  ·exact this.2
 have finL:∀(out:Array aO) ia ib g,ia+1=a.size->Iv lt (a.toList++b.toList) out.toList (a.toList.drop ia++b.toList.drop ib)->Q (out++b.extract ib b.size++a.extract ia a.size) (setG st g):=λout ia ib g e iv=>by
  obtain⟨z,hz,J⟩:=aQe (a:=a) (i:=ia) (by lia)
  have e0:a.toList.drop ia=[z]:=by rw[cQk J,bE (by simp;lia)]
  have iv2:=iv.perm' d4;have hz2:a.toList[a.size-1]?=some z:=by rw[<- e];exact J
  have:=iv2.done (a9.mpr ⟨sb.drop ib,sa.drop ia,λx hx y hy=>by
   rw[e0] at hy;rw[aJ.mp hy];exact hlst z hz2 x (eD hx)⟩)
  refine h _ g ?_ ?_ <;> simp only[cL,cQl,be]
  ·exact this.1
  ·exact this.2
 have t2:∀(Y:ForInStep (Option (Array aO)×Array aO×Nat×Nat×Nat×Nat×Nat)->c7->Prop) (out:Array aO) (ia ib mg ac bc g:Nat),(∀r c',Q r (setG st g)->Y (.done (some r,c')) (setG st g)) ->
   (∀D B G ac' bc',B+1<a.size->G<b.size->Iv lt (a.toList++b.toList) D.toList (a.toList.drop B++b.toList.drop G)->out.size<=D.size->Y (.done (none,D,B,G,mg,ac',bc')) (setG st g)/\Y (.yield (none,D,B,G,mg,ac',bc')) (setG st g)) ->
   ia+1<a.size->ib<b.size->Iv lt (a.toList++b.toList) out.toList (a.toList.drop ia++b.toList.drop ib)->(∀x,a.toList[ia]?=some x->∀u∈b.toList.drop ib,lt u x=false) ->
   wpS (aF prog w) A E s (do
    let x <- eU a ia
    if (ia+1+1==a.size)=true then pure (bn (some (out.push x++b.extract ib b.size++a.extract (ia+1) a.size),out.push x,ia+1,ib,mg,ac,bc))
    else if (decide (ac<7)&&decide (bc<7))=true then pure (bn (none,out.push x,ia+1,ib,mg,ac,bc))
    else pure (bD (none,out.push x,ia+1,ib,mg,ac,bc))) Y (setG st g):=by
  intro Y out ia ib mg ac bc g hd hg hia hib iv hl;obtain⟨x1,hx1,hx1l⟩:=aQe (a:=a) (i:=ia) (by lia)
  refine aA (aZa hx1 ?_);have iv2:Iv lt (a.toList++b.toList) (out.push x1).toList (a.toList.drop (ia+1)++b.toList.drop ib):=by
   rw[cG];exact iv.pushA sa hx1l (hl x1 hx1l)
  have sp:(out.push x1).size=out.size+1:=dY ..
  by_cases c1:(ia+1+1==a.size)=true
  ·refine aQy c1 ?_;exact aG (hd _ _ (finL _ _ _ g (by simpa using c1) iv2))
  ·refine aQz c1 ?_;have c1':ia+1+1≠a.size:=by simpa using c1
   have:=hg (out.push x1) (ia+1) ib ac bc (by lia) hib iv2 (by lia)
   by_cases c2:(decide (ac<7)&&decide (bc<7))=true
   ·refine aQy c2 ?_;exact aG this.1
   ·refine aQz c2 ?_;exact aG this.2
 have t1:∀(Y:ForInStep (Option (Array aO)×Array aO×Nat×Nat×Nat×Nat×Nat)->c7->Prop) (out:Array aO) (ia ib mg ac bc g:Nat),(∀r c',Q r (setG st g)->Y (.done (some r,c')) (setG st g)) ->
   (∀D B G ac' bc',B+1<a.size->G<b.size->Iv lt (a.toList++b.toList) D.toList (a.toList.drop B++b.toList.drop G)->out.size<=D.size->Y (.done (none,D,B,G,mg,ac',bc')) (setG st g)/\Y (.yield (none,D,B,G,mg,ac',bc')) (setG st g)) ->
   ia+1<a.size->ib<b.size->Iv lt (a.toList++b.toList) out.toList (a.toList.drop ia++b.toList.drop ib)->(∀y,b.toList[ib]?=some y->∀u∈a.toList.drop ia,lt u y=false) ->
   wpS (aF prog w) A E s (do
    let y <- eU b ib
    if (ib+1==b.size)=true then pure (bn (some (out.push y++a.extract ia a.size++b.extract (ib+1) b.size),out.push y,ia,ib+1,mg,ac,bc))
    else do
     let x <- eU a ia
     let z <- gal true x b (ib+1) (b.size-(ib+1)) 0
     match z with
     |some k1 =>
      if k1>0 then
       if (ib+1+k1==b.size)=true then pure (bn (some (out.push y++b.extract (ib+1) (ib+1+k1)++a.extract ia a.size++b.extract (ib+1+k1) b.size),out.push y++b.extract (ib+1) (ib+1+k1),ia,ib+1+k1,mg,ac,k1))
       else do
        let x <- eU a ia
        if (ia+1+1==a.size)=true then pure (bn (some ((out.push y++b.extract (ib+1) (ib+1+k1)).push x++b.extract (ib+1+k1) b.size++a.extract (ia+1) a.size),(out.push y++b.extract (ib+1) (ib+1+k1)).push x,ia+1,ib+1+k1,mg,ac,k1))
        else if (decide (ac<7)&&decide (k1<7))=true then pure (bn (none,(out.push y++b.extract (ib+1) (ib+1+k1)).push x,ia+1,ib+1+k1,mg,ac,k1))
        else pure (bD (none,(out.push y++b.extract (ib+1) (ib+1+k1)).push x,ia+1,ib+1+k1,mg,ac,k1))
      else do
       let x <- eU a ia
       if (ia+1+1==a.size)=true then pure (bn (some ((out.push y).push x++b.extract (ib+1) b.size++a.extract (ia+1) a.size),(out.push y).push x,ia+1,ib+1,mg,ac,k1))
       else if (decide (ac<7)&&decide (k1<7))=true then pure (bn (none,(out.push y).push x,ia+1,ib+1,mg,ac,k1))
       else pure (bD (none,(out.push y).push x,ia+1,ib+1,mg,ac,k1))
     |_=>pure (bn (some (out.push y++a.extract ia a.size++b.extract (ib+1) b.size),out.push y,ia,ib+1,mg,ac,bc))) Y (setG st g):=by
  intro Y out ia ib mg ac bc g hd hg hia hib iv hl;obtain⟨y1,hy1,Z⟩:=aQe (a:=b) (i:=ib) hib;obtain⟨x1,hx1,hx1l⟩:=aQe (a:=a) (i:=ia) (by lia)
  have px1:=pa x1 (am hx1l);refine aA (aZa hy1 ?_);have iv2:Iv lt (a.toList++b.toList) (out.push y1).toList (a.toList.drop ia++b.toList.drop (ib+1)):=by
   rw[cG];exact iv.pushB sb Z (hl y1 Z)
  have sp:(out.push y1).size=out.size+1:=dY ..
  by_cases c1:(ib+1==b.size)=true
  ·refine aQy c1 ?_;exact aG (hd _ _ (finA _ _ _ g (by simpa using c1) iv2))
  refine aQz c1 ?_;have c1':ib+1≠b.size:=by simpa using c1
  refine aA (aZa hx1 (aA (bZq o (f:=λi=>b.toList.getD (ib+1+i) (.none,.none)) hk px1 (λi hi=>?_) (λi j hij hj hb=>?_) (by lia) λk k1 k2 k3=>?_)))
  ·obtain⟨z,hz,J⟩:=aQe (a:=b) (i:=ib+1+i) (by lia)
   rw[aj,J];exact⟨hz,pb z (am J)⟩
  ·obtain⟨z,hz,J⟩:=aQe (a:=b) (i:=ib+1+i) (by lia)
   obtain⟨z',hz',hzl'⟩:=aQe (a:=b) (i:=ib+1+j) (by lia)
   rw[aj,hzl'] at hb;rw[aj,J];have hb':lt z' x1=true:=hb;show lt z x1=true;cases e:lt z x1 with
   |true=>rfl
   |false =>
    exfalso;have pz:=pb z (am J);have pz':=pb z' (am hzl');rcases Nat.eq_or_lt_of_le hij with rfl|hlt
    ·rw[J] at hzl';cases hzl';rw[e] at hb';cases hb'
    ·have:=o.tr x1 z z' px1 pz pz' e (sb.at (by lia) J hzl')
     rw[hb'] at this;cases this
  have behind:∀j y,ib+1+k<=j->b.toList[j]?=some y->lt y x1=false:=λj y hj hy=>by
   have hjb:j<b.size:=by have:=(aH.mp hy).1;simpa using this
   have:=k3 (j-(ib+1)) (by lia) (by lia)
   rw[aj,show ib+1+(j-(ib+1))=j by lia,hy] at this
   exact this
  dsimp only
  by_cases ck:k>0
  ·refine aQy ck ?_;have iv3:Iv lt (a.toList++b.toList) (out.push y1++b.extract (ib+1) (ib+1+k)).toList (a.toList.drop ia++b.toList.drop (ib+1+k)):=by
    rw[cL,aZl,show ib+1+k-(ib+1)=k by lia]
    refine iv2.blockB sb k λz hz u hu=>?_;obtain⟨j,hj,J⟩:=aZx hz;have pz:=pb z (am J);have hb:=k2 j hj;rw[aj,J] at hb;exact bJl o pa sa pz hx1l (o.as _ _ pz px1 hb) u hu
   have sz3:out.size<=(out.push y1++b.extract (ib+1) (ib+1+k)).size:=by rw[ig];lia
   by_cases c3:(ib+1+k==b.size)=true
   ·refine aQy c3 ?_;exact aG (hd _ _ (finA _ _ _ g (by simpa using c3) iv3))
   ·refine aQz c3 ?_;have c3':ib+1+k≠b.size:=by simpa using c3
    refine t2 Y _ ia (ib+1+k) mg ac k g hd (λo' i1 i2 a1 b1 q1 q2 q3 q4=>hg o' i1 i2 a1 b1 q1 q2 q3 (by lia)) hia (by lia) iv3 λx hx u hu=>?_
    rw[hx1l] at hx;cases hx;obtain⟨j,hj,e⟩:=aQp hu;exact behind j u hj e
  ·refine aQz ck ?_;have k0:k=0:=by lia
   refine t2 Y _ ia (ib+1) mg ac k g hd (λo' i1 i2 a1 b1 q1 q2 q3 q4=>hg o' i1 i2 a1 b1 q1 q2 q3 (by lia)) hia (by lia) iv2 λx hx u hu=>?_
   rw[hx1l] at hx;cases hx;obtain⟨j,hj,e⟩:=aQp hu;exact behind j u (by lia) e
 rw[fXv];refine aA (jh (dA ⟨rfl,?_⟩));dsimp only;obtain⟨y0,hy0,hy0l⟩:=aQe (a:=b) (i:=0) nb;refine aA (aZa hy0 ?_);have iv0:Iv lt (a.toList++b.toList) (#[y0]:Array aO).toList (a.toList.drop 0++b.toList.drop 1):=by
  have i0:Iv lt (a.toList++b.toList) [] (a.toList.drop 0++b.toList.drop 0):=⟨by simp,ff,by simp⟩
  exact i0.pushB sb hy0l λu hu=>hfst y0 hy0l u hu
 have est:st=setG st (gallopOf st):=rfl
 by_cases hb1:(1==b.size)=true
 ·refine aQy hb1 ?_;refine aG ?_;rw[est];exact finA _ 0 1 _ (by simpa using hb1) iv0
 refine aQz hb1 ?_
 by_cases ha1:(0+1==a.size)=true
 ·refine aQy ha1 ?_;refine aG ?_;rw[est];exact finL _ 0 1 _ (by simpa using ha1) iv0
 refine aQz ha1 ?_;have hb2:1<b.size:=by
  have:1≠b.size:=by simpa using hb1
  lia
 have ha2:0+1<a.size:=by
  have:0+1≠a.size:=by simpa using ha1
  lia
 refine aA (iT ?_);refine aA (dG (ca (I:=λx c O=>∃ out ia ib mg g,c=(none,out,ia,ib,mg)/\O=setG st g/\ia + 1 < a.size/\ib < b.size/\Iv lt (a.toList++b.toList) out.toList (a.toList.drop ia++b.toList.drop ib)/\x + 1<=out.size)
  (Q:=λc O=>∃r,c.fst=some r/\Q r O) ?_ ?_ ⟨#[y0],0,1,_,_,rfl,est,ha2,hb2,iv0,by simp⟩) ?_)
 ·intro x c O _ hx zq;refine hd λGq kq=>?_;obtain⟨out,ia,ib,mg,g,rfl,rfl,hia,hib,iv,hsz⟩:=zq;refine kq ?_;dsimp only;refine aA (dG (ca (I:=λy c O=>∃ D B G ac bc,c=(none,D,B,G,ac,bc)/\O=setG st g/\B + 1 < a.size/\G < b.size/\Iv lt (a.toList++b.toList) D.toList (a.toList.drop B++b.toList.drop G)/\out.size + y<=D.size)
   (Q:=λc O=>O=setG st g/\((∃r,c.fst=some r/\Q r O)\/∃D B G ac bc,c=(none,D,B,G,ac,bc)/\B+1<a.size/\G<b.size/\Iv lt (a.toList++b.toList) D.toList (a.toList.drop B++b.toList.drop G)/\out.size+1<=D.size)) ?_ ?_ ⟨out,ia,ib,0,0,rfl,rfl,hia,hib,iv,Nat.le_refl _⟩) ?_)
  ·intro y c O _ hy zq;refine hd λGq kq=>?_;obtain⟨D,B,G,ac,bc,rfl,rfl,hia',U,iv',hsz'⟩:=zq;refine kq ?_;obtain⟨x1,hx1,hx1l⟩:=aQe (a:=a) (i:=B) (by lia)
   obtain⟨y1,hy1,Z⟩:=aQe (a:=b) (i:=G) U;have px1:=pa x1 (am hx1l);have py1:=pb y1 (am Z);dsimp only;refine aA (aZa hy1 (aA (aZa hx1 (aA (dQo o hk py1 px1 ?_)))));dsimp only;cases e:lt y1 x1 with
   |true =>
    refine aQy rfl ?_;refine aA (aZa hy1 ?_);have iv2:Iv lt (a.toList++b.toList) (D.push y1).toList (a.toList.drop B++b.toList.drop (G+1)):=by
     rw[cG];exact iv'.pushB sb Z (bJl o pa sa py1 hx1l (o.as _ _ py1 px1 e))
    have sp:(D.push y1).size=D.size+1:=dY ..
    by_cases c1:(G+1==b.size)=true
    ·refine aQy c1 ?_;exact aG ⟨rfl,.inl ⟨_,rfl,finA _ _ _ g (by simpa using c1) iv2⟩⟩
    ·refine aQz c1 ?_;have c1':G+1≠b.size:=by simpa using c1
     by_cases c2:bc+1>=mg
     ·refine aQy c2 ?_;exact aG ⟨rfl,.inr ⟨_,_,_,_,_,rfl,hia',by lia,iv2,by lia⟩⟩
     ·refine aQz c2 ?_;exact aG ⟨_,_,_,_,_,rfl,rfl,hia',by lia,iv2,by lia⟩
   |false =>
    refine aQz (by simp) ?_
    refine aA (aZa hx1 ?_);have iv2:Iv lt (a.toList++b.toList) (D.push x1).toList (a.toList.drop (B+1)++b.toList.drop G):=by
     rw[cG];exact iv'.pushA sa hx1l (bJl o pb sb px1 Z e)
    have sp:(D.push x1).size=D.size+1:=dY ..
    by_cases c1:(B+1+1==a.size)=true
    ·refine aQy c1 ?_;exact aG ⟨rfl,.inl ⟨_,rfl,finL _ _ _ g (by simpa using c1) iv2⟩⟩
    ·refine aQz c1 ?_;have c1':B+1+1≠a.size:=by simpa using c1
     by_cases c2:ac+1>=mg
     ·refine aQy c2 ?_;exact aG ⟨rfl,.inr ⟨_,_,_,_,_,rfl,by lia,U,iv2,by lia⟩⟩
     ·refine aQz c2 ?_;exact aG ⟨_,_,_,_,_,rfl,rfl,by lia,U,iv2,by lia⟩
  ·intro c O zq;refine hd λGq kq=>?_;obtain⟨D,B,G,ac,bc,rfl,rfl,hia',U,iv',hsz'⟩:=zq;refine kq ?_;exact⟨rfl,.inr ⟨_,_,_,_,_,rfl,hia',U,iv',by lia⟩⟩
  ·rintro c O ⟨rfl,⟨r,hr,q⟩|⟨out1,ia1,ib1,ac1,bc1,rfl,hia1,hib1,iv1,hsz1⟩⟩
   ·obtain⟨c1,c2⟩:=c;dsimp only at hr;subst hr;exact aG ⟨r,rfl,q⟩
   ·dsimp only;refine aA (jh (dA ⟨rfl,?_⟩));refine aA (dG (ca (I:=λy c O=>∃ D B G mg' ac bc g',c=(none,D,B,G,mg',ac,bc)/\O=setG st g'/\B + 1 < a.size/\G < b.size/\Iv lt (a.toList++b.toList) D.toList (a.toList.drop B++b.toList.drop G)/\out1.size<=D.size)
     (Q:=λc O=>(∃r,c.fst=some r/\Q r O)\/∃D B G mg' ac bc g',c=(none,D,B,G,mg',ac,bc)/\O=setG st g'/\B+1<a.size/\G<b.size/\Iv lt (a.toList++b.toList) D.toList (a.toList.drop B++b.toList.drop G)/\out1.size<=D.size) ?_ ?_ ⟨out1,ia1,ib1,_,ac1,bc1,g,rfl,rfl,hia1,hib1,iv1,Nat.le_refl _⟩) ?_)
    ·intro y c O _ hy zq;refine hd λGq kq=>?_;obtain⟨D,B,G,mg',ac,bc,g',rfl,rfl,hia',U,iv',hsz'⟩:=zq;refine kq ?_;dsimp only;obtain⟨y1,hy1,Z⟩:=aQe (a:=b) (i:=G) U;have py1:=pb y1 (am Z);have fa:∀i,i<a.size-B->a[B+i]?=some (a.toList.getD (B+i) (.none,.none))/\P (a.toList.getD (B+i) (.none,.none)):=λi hi=>by
      obtain⟨z,hz,J⟩:=aQe (a:=a) (i:=B+i) (by lia)
      rw[aj,J];exact⟨hz,pa z (am J)⟩
     have mono:∀i j,i<=j->j<a.size-B->bv lt false y1 (a.toList.getD (B+j) (.none,.none))=true->bv lt false y1 (a.toList.getD (B+i) (.none,.none))=true:=λi j hij hj hb=>by
      obtain⟨z,hz,J⟩:=aQe (a:=a) (i:=B+i) (by lia)
      obtain⟨z',hz',hzl'⟩:=aQe (a:=a) (i:=B+j) (by lia)
      rw[aj,hzl'] at hb;rw[aj,J];have hb':lt y1 z'=false:=by simpa [bv] using hb
      show(!lt y1 z)=true;rcases Nat.eq_or_lt_of_le hij with rfl|hlt
      ·rw[J] at hzl';cases hzl';rw[hb'];rfl
      ·rw[o.tr z z' y1 (pa z (am J)) (pa z' (am hzl')) py1 (sa.at (by lia) J hzl') hb'];rfl
     clear kq
     revert mg'
     refine eQw (λ_=>rfl) λm2=>?_;refine aA (c8 (aA (aZa hy1 (aA (bZq o hk py1 fa mono (by lia) λk k1 k2 k3=>?_)))))
     dsimp only;have behind:∀j z,B+k<=j->a.toList[j]?=some z->lt z y1=false:=λj z hj hz=>by
      have hja:j<a.size:=by have:=(aH.mp hz).1;simpa using this
      have:=k3 (j-B) (by lia) (by lia)
      rw[aj,show B+(j-B)=j by lia,hz] at this
      have h1:(!lt y1 z)=false:=this;exact o.as _ _ py1 (pa z (am hz)) (by simpa using h1)
     by_cases ck:k>0
     ·refine aQy ck ?_;have iv3:Iv lt (a.toList++b.toList) (D++a.extract B (B+k)).toList (a.toList.drop (B+k)++b.toList.drop G):=by
       rw[cL,aZl,show B+k-B=k by lia]
       refine iv'.blockA sa k λz hz u hu=>?_;obtain⟨j,hj,J⟩:=aZx hz;have hb:=k2 j hj;rw[aj,J] at hb;have h1:(!lt y1 z)=true:=hb;exact bJl o pb sb (pa z (am J)) Z (by simpa using h1) u hu
      have sz3:out1.size<=(D++a.extract B (B+k)).size:=by rw[ig];lia
      by_cases c3:(B+k+1==a.size)=true
      ·refine aQy c3 ?_;exact aG (.inl ⟨_,rfl,finL _ _ _ _ (by simpa using c3) iv3⟩)
      ·refine aQz c3 ?_;have c3':B+k+1≠a.size:=by simpa using c3
       by_cases c4:(B+k==a.size)=true
       ·refine aQy c4 ?_;exact aG (.inl ⟨_,rfl,finB _ _ _ _ (by simpa using c4) iv3⟩)
       ·refine aQz c4 ?_;have c4':B+k≠a.size:=by simpa using c4
        refine t1 _ _ (B+k) G m2 k bc m2 (λr c' q=>.inl ⟨r,rfl,q⟩) (λo' i1 i2 a1 b1 q1 q2 q3 q4=>⟨.inr ⟨_,_,_,_,_,_,_,rfl,rfl,q1,q2,q3,by lia⟩,⟨_,_,_,_,_,_,_,rfl,rfl,q1,q2,q3,by lia⟩⟩) (by lia) U iv3 λy hy u hu=>?_
        rw[Z] at hy;cases hy;obtain⟨j,hj,e⟩:=aQp hu;exact behind j u hj e
     ·refine aQz ck ?_;refine t1 _ _ B G m2 k bc m2 (λr c' q=>.inl ⟨r,rfl,q⟩) (λo' i1 i2 a1 b1 q1 q2 q3 q4=>⟨.inr ⟨_,_,_,_,_,_,_,rfl,rfl,q1,q2,q3,by lia⟩,⟨_,_,_,_,_,_,_,rfl,rfl,q1,q2,q3,by lia⟩⟩) hia' U iv' λy hy u hu=>?_
      rw[Z] at hy;cases hy;obtain⟨j,hj,e⟩:=aQp hu;exact behind j u (by lia) e
    ·intro c O zq;refine hd λGq kq=>?_;obtain⟨D,B,G,mg',ac,bc,g',rfl,rfl,hia',U,iv',hsz'⟩:=zq;refine kq ?_;exact .inr ⟨_,_,_,_,_,_,_,rfl,rfl,hia',U,iv',hsz'⟩
    ·rintro c O (⟨r,hr,q⟩|⟨D,B,G,mg',ac,bc,g',rfl,rfl,hia',U,iv',hsz'⟩)
     ·obtain⟨c1,c2⟩:=c;dsimp only at hr;subst hr;exact aG ⟨r,rfl,q⟩
     ·dsimp only;exact aA (c8 (aG ⟨_,_,_,_,_,rfl,rfl,hia',U,iv',by lia⟩))
 ·intro c O zq;refine hd λGq kq=>?_;obtain⟨out,ia,ib,mg,g,rfl,rfl,hia,hib,iv,hsz⟩:=zq;refine kq ?_;exfalso
  have:=iv.size
  rw[sz,aW] at this;lia
 ·rintro c O ⟨r,hr,q⟩;obtain⟨c1,c2⟩:=c;dsimp only at hr;subst hr;exact aG q
end
theorem fXx(a b:Array aO):mHi a b=(do
 rule "list.sort.merge-hi"
 let total:=a.size+b.size
 let fin (o:Array aO) (na nb:Nat):=a.extract 0 na++b.extract 0 nb++o.reverse
 let fst (o:Array aO) (na nb:Nat):=b.extract 0 nb++a.extract 0 na++o.reverse
 let mut na:=a.size-1
 let mut nb:=b.size
 let mut out:Array aO:=#[<- eU a na]
 if na==0 then return fin out na nb
 if nb==1 then return fst out na nb
 let mut minGallop:=gallopOf (<- get)
 for _ in [0:total] do
  let mut acount:=0
  let mut bcount:=0
  for _ in [0:total] do
   let some aw <- lt' (<- eU b (nb-1)) (<- eU a (na-1))|return fin out na nb
   if aw then
    na:=na-1
    out:=out.push (<- eU a na)
    acount:=acount+1
    bcount:=0
    if na==0 then return fin out na nb
    if acount>=minGallop then break
   else
    nb:=nb-1
    out:=out.push (<- eU b nb)
    bcount:=bcount+1
    acount:=0
    if nb==1 then return fst out na nb
    if bcount>=minGallop then break
  rule "list.sort.gallop"
  minGallop:=minGallop+1
  for _ in [0:total] do
   if minGallop>1 then minGallop:=minGallop-1
   modify (λs=>setG s minGallop)
   let some p <- gal false (<- eU b (nb-1)) a 0 na (na-1)|return fin out na nb
   let k:=na-p
   acount:=k
   if k>0 then
    out:=out++(a.extract p na).reverse
    na:=p
    if na==0 then return fin out na nb
   nb:=nb-1
   out:=out.push (<- eU b nb)
   if nb==1 then return fst out na nb
   let some p <- gal true (<- eU a (na-1)) b 0 nb (nb-1)|return fin out na nb
   let k:=nb-p
   bcount:=k
   if k>0 then
    out:=out++(b.extract p nb).reverse
    nb:=p
    if nb==1 then return fst out na nb
    if nb==0 then return fin out na nb
   na:=na-1
   out:=out.push (<- eU a na)
   if na==0 then return fin out na nb
   if acount<7&&bcount<7 then break
  minGallop:=minGallop+1
  modify (λs=>setG s minGallop)
 fH "internal:list.sort.merge-bound"):=rfl
section
variable{α:Type}{lt:α->α->Bool}{T out rest:List α}
abbrev rl(lt:α->α->Bool):α->α->Bool:=λx y=>lt y x
theorem Iv.doneR(h:Iv (rl lt) T out rest){l:List α}(hp:l.Perm rest)(hs:Sd lt l):Sd lt (l++out.reverse)/\(l++out.reverse).Perm T:=by
 refine⟨a9.mpr ⟨hs,io.mpr h.sd,λx z y j=>h.lo y (jT.mp j) x (hp.mem_iff.mp z)⟩,?_⟩;exact(List.Perm.append hp (jw out)).trans (d4.trans h.perm)
theorem cQm{l:List α}(h:l[i]?=some x):l.take (i+1)=l.take i++[x]:=by rw[cz,h];rfl
theorem Sd.take(h:Sd lt l)(i:Nat):Sd lt (l.take i):=h.sublist (cF _ _)
theorem aQt{l:List α}(h:y∈l.take i):∃j,j<i/\l[j]?=some y:=by
 obtain⟨k,z,e⟩:=bd h;rw[aP] at z;rw[fW] at e;exact⟨k,by lia,by rw[af (by lia),e]⟩
end
section
variable{prog:ax}{w:aK}{A:aU}{s:ag}{κ:fE}{P:aO->Prop}{lt:aO->aO->Bool}{T out la lb:List aO}{na nb:Nat}{x y:aO}
theorem bJm(o:Orc prog w A s κ P lt){l:List aO}(hP:∀z∈l,P z)(hs:Sd lt l){i:Nat}{z:aO}(hz:P z){y:aO}(hy:l[i]?=some y)(h:lt z y=false):∀u∈l.take (i+1),lt z u=false:=λu D=>by
 obtain⟨j,G,e⟩:=aQt D;rcases Nat.eq_or_lt_of_le (Nat.le_of_lt_succ G) with rfl|B
 ·rw[hy] at e;cases e;exact h
 ·exact o.tr u y z (hP u (am e)) (hP y (am hy)) hz (hs.at B e hy) h
theorem Iv.popA(h:Iv (rl lt) T out (la.take (na+1)++lb.take nb))(sa:Sd lt la)(hx:la[na]?=some x)(hl:∀u∈lb.take nb,lt x u=false):Iv (rl lt) T (out++[x]) (la.take na++lb.take nb):=by
 refine h.step ?_ (bj _ _) λz B u D=>?_
 ·rw[cQm hx,be];exact gq
 ·rw[aJ.mp B];rcases aY.mp D with v|v
  ·obtain⟨j,G,e⟩:=aQt v;exact sa.at G e hx
  ·exact hl u v
theorem Iv.popB(h:Iv (rl lt) T out (la.take na++lb.take (nb+1)))(sb:Sd lt lb)(hy:lb[nb]?=some y)(hl:∀u∈la.take na,lt y u=false):Iv (rl lt) T (out++[y]) (la.take na++lb.take nb):=by
 refine h.step ?_ (bj _ _) λz B u D=>?_
 ·rw[cQm hy,<- be];exact d4
 ·rw[aJ.mp B];rcases aY.mp D with v|v
  ·exact hl u v
  ·obtain⟨j,G,e⟩:=aQt v;exact sb.at G e hy
theorem dQp(l:List aO){p n:Nat}(h:p<=n):l.take n=l.take p++(l.drop p).take (n-p):=by
 have:n=p+(n-p):=by lia
 rw[this,List.take_add];simp
theorem Iv.backA(h:Iv (rl lt) T out (la.take na++lb.take nb))(sa:Sd lt la){p:Nat}(hp:p<=na)(hl:∀z∈(la.drop p).take (na-p),∀u∈lb.take nb,lt z u=false):Iv (rl lt) T (out++((la.drop p).take (na-p)).reverse) (la.take p++lb.take nb):=by
 have e:=dQp la hp;have sd:=sa.take na;rw[e] at sd;obtain⟨_,s2,s3⟩:=a9.mp sd;refine h.step ?_ (io.mpr s2) λz j u B=>?_
 ·rw[e,be];refine(List.perm_append_comm_assoc _ _ _).trans ?_;exact eM _ (jw _).symm
 ·have j:=jT.mp j;rcases aY.mp B with v|v
  ·exact s3 u v z j
  ·exact hl z j u v
theorem Iv.backB(h:Iv (rl lt) T out (la.take na++lb.take nb))(sb:Sd lt lb){p:Nat}(hp:p<=nb)(hl:∀z∈(lb.drop p).take (nb-p),∀u∈la.take na,lt z u=false):Iv (rl lt) T (out++((lb.drop p).take (nb-p)).reverse) (la.take na++lb.take p):=by
 have e:=dQp lb hp;have sd:=sb.take nb;rw[e] at sd;obtain⟨_,s2,s3⟩:=a9.mp sd;refine h.step ?_ (io.mpr s2) λz j u B=>?_
 ·rw[e,<- be];refine d4.trans ?_;exact eM _ (jw _).symm
 ·have j:=jT.mp j;rcases aY.mp B with v|v
  ·exact hl z j u v
  ·exact s3 u v z j
end
theorem eQx(a:Array aO)(n:Nat):(a.extract 0 n).toList=a.toList.take n:=by rw[aZl];simp
section
variable{prog:ax}{w:aK}{A:aU}{E:ab->ag->Prop}{s:ag}{κ:fE}{P:aO->Prop}{lt:aO->aO->Bool}
theorem fXy(o:Orc prog w A s κ P lt){st:c7}{a b:Array aO}{Q:Array aO->c7->Prop}(hk:kindOf st=κ)(pa:∀x∈a.toList,P x)(pb:∀y∈b.toList,P y)(sa:Sd lt a.toList)(sb:Sd lt b.toList)(na0:1<=a.size)(nb0:1<=b.size)
  (hfst:∀y,b.toList[0]?=some y->∀x∈a.toList,lt x y=false) (hlst:∀z,a.toList[a.size-1]?=some z->∀y∈b.toList,lt z y=false)
  (h:∀out g,Sd lt out.toList->out.toList.Perm (a.toList++b.toList)->Q out (setG st g)):wpS (aF prog w) A E s (mHi a b) Q st:=by
 have sz:(a.toList++b.toList).length=a.size+b.size:=by simp
 have finG:∀(out:Array aO) na nb g,Sd lt (a.toList.take na++b.toList.take nb)->Iv (rl lt) (a.toList++b.toList) out.toList (a.toList.take na++b.toList.take nb)->Q (a.extract 0 na++b.extract 0 nb++out.reverse) (setG st g):=λout na nb g e iv=>by
  have:=iv.doneR (dJ _) e
  refine h _ g ?_ ?_ <;> simp only[cL,gi,eQx]
  ·exact this.1
  ·exact this.2
 have finF:∀(out:Array aO) na nb g,nb=1->Iv (rl lt) (a.toList++b.toList) out.toList (a.toList.take na++b.toList.take nb)->Q (b.extract 0 nb++a.extract 0 na++out.reverse) (setG st g):=λout na nb g e iv=>by
  obtain⟨y0,hy0,hy0l⟩:=aQe (a:=b) (i:=0) nb0;have e1:b.toList.take nb=[y0]:=by rw[e];exact(cQm (i:=0) hy0l)
  have sd:Sd lt (b.toList.take nb++a.toList.take na):=by
   rw[e1];exact aN.mpr ⟨λu hu=>hfst y0 hy0l u (c6 hu),sa.take na⟩
  have:=iv.doneR d4 sd
  refine h _ g ?_ ?_ <;> simp only[cL,gi,eQx]
  ·exact this.1
  ·exact this.2
 have t2:∀(O:ForInStep (Option (Array aO)×Nat×Nat×Array aO×Nat×Nat×Nat)->c7->Prop) (out:Array aO) (na nb mg ac bc g:Nat),(∀r c',Q r (setG st g)->O (.done (some r,c')) (setG st g)) ->
   (∀na' D B ac' bc',1<=na'->(na'<=a.size/\2<=D/\D<=b.size)->Iv (rl lt) (a.toList++b.toList) B.toList (a.toList.take na'++b.toList.take D)->out.size<=B.size->O (.done (none,na',D,B,mg,ac',bc')) (setG st g)/\O (.yield (none,na',D,B,mg,ac',bc')) (setG st g)) ->
   1<=na->na<=a.size->(2<=nb/\nb<=b.size)->Iv (rl lt) (a.toList++b.toList) out.toList (a.toList.take na++b.toList.take nb)->(∀x,a.toList[na-1]?=some x->∀u∈b.toList.take nb,lt x u=false) ->
   wpS (aF prog w) A E s (do
    let x <- eU a (na-1)
    if (na-1==0)=true then pure (bn (some (a.extract 0 (na-1)++b.extract 0 nb++((out).push x).reverse),na-1,nb,(out).push x,mg,ac,bc))
    else if (decide (ac<7)&&decide (bc<7))=true then pure (bn (none,na-1,nb,(out).push x,mg,ac,bc))
    else pure (bD (none,na-1,nb,(out).push x,mg,ac,bc))) O (setG st g):=by
  intro O out na nb mg ac bc g hd hg hna hla hnb iv hl;obtain⟨m,rfl⟩:∃m,na=m+1:=⟨na-1,by lia⟩
  simp only[Nat.add_sub_cancel] at hl ⊢;obtain⟨x1,hx1,Y⟩:=aQe (a:=a) (i:=m) (by lia)
  refine aA (aZa hx1 ?_);have iv2:Iv (rl lt) (a.toList++b.toList) (out.push x1).toList (a.toList.take m++b.toList.take nb):=by
   rw[cG];exact iv.popA sa Y (hl x1 Y)
  have sp:(out.push x1).size=out.size+1:=dY ..
  by_cases c1:(m==0)=true
  ·have m0:m=0:=by simpa using c1
   refine aQy c1 ?_;refine aG (hd _ _ (finG _ _ _ g ?_ iv2));rw[m0];exact sb.take _
  ·refine aQz c1 ?_;have c1':m≠0:=by simpa using c1
   have:=hg m nb (out.push x1) ac bc (by lia) ⟨by lia,hnb⟩ iv2 (by lia)
   by_cases c2:(decide (ac<7)&&decide (bc<7))=true
   ·refine aQy c2 ?_;exact aG this.1
   ·refine aQz c2 ?_;exact aG this.2
 have t1:∀(O:ForInStep (Option (Array aO)×Nat×Nat×Array aO×Nat×Nat×Nat)->c7->Prop) (out:Array aO) (na nb mg ac bc g:Nat),(∀r c',Q r (setG st g)->O (.done (some r,c')) (setG st g)) ->
   (∀na' D B ac' bc',1<=na'->(na'<=a.size/\2<=D/\D<=b.size)->Iv (rl lt) (a.toList++b.toList) B.toList (a.toList.take na'++b.toList.take D)->out.size<=B.size->O (.done (none,na',D,B,mg,ac',bc')) (setG st g)/\O (.yield (none,na',D,B,mg,ac',bc')) (setG st g)) ->
   1<=na->na<=a.size->(2<=nb/\nb<=b.size)->Iv (rl lt) (a.toList++b.toList) out.toList (a.toList.take na++b.toList.take nb)->(∀y,b.toList[nb-1]?=some y->∀u∈a.toList.take na,lt y u=false) ->
   wpS (aF prog w) A E s (do
    let y <- eU b (nb-1)
    if (nb-1==1)=true then pure (bn (some (b.extract 0 (nb-1)++a.extract 0 na++(out.push y).reverse),na,nb-1,out.push y,mg,ac,bc))
    else do
     let x <- eU a (na-1)
     let z <- gal true x b 0 (nb-1) (nb-1-1)
     match z with
     |some Z =>
      if nb-1-Z>0 then
       if (Z==1)=true then pure (bn (some (b.extract 0 Z++a.extract 0 na++(out.push y++(b.extract Z (nb-1)).reverse).reverse),na,Z,out.push y++(b.extract Z (nb-1)).reverse,mg,ac,nb-1-Z))
       else if (Z==0)=true then pure (bn (some (a.extract 0 na++b.extract 0 Z++(out.push y++(b.extract Z (nb-1)).reverse).reverse),na,Z,out.push y++(b.extract Z (nb-1)).reverse,mg,ac,nb-1-Z))
       else do
        let x <- eU a (na-1)
        if (na-1==0)=true then pure (bn (some (a.extract 0 (na-1)++b.extract 0 Z++((out.push y++(b.extract Z (nb-1)).reverse).push x).reverse),na-1,Z,(out.push y++(b.extract Z (nb-1)).reverse).push x,mg,ac,(nb-1-Z)))
        else if (decide (ac<7)&&decide ((nb-1-Z)<7))=true then pure (bn (none,na-1,Z,(out.push y++(b.extract Z (nb-1)).reverse).push x,mg,ac,(nb-1-Z)))
        else pure (bD (none,na-1,Z,(out.push y++(b.extract Z (nb-1)).reverse).push x,mg,ac,(nb-1-Z)))
      else do
       let x <- eU a (na-1)
       if (na-1==0)=true then pure (bn (some (a.extract 0 (na-1)++b.extract 0 (nb-1)++((out.push y).push x).reverse),na-1,(nb-1),(out.push y).push x,mg,ac,(nb-1-Z)))
       else if (decide (ac<7)&&decide ((nb-1-Z)<7))=true then pure (bn (none,na-1,(nb-1),(out.push y).push x,mg,ac,(nb-1-Z)))
       else pure (bD (none,na-1,(nb-1),(out.push y).push x,mg,ac,(nb-1-Z)))
     |_=>pure (bn (some (a.extract 0 na++b.extract 0 (nb-1)++(out.push y).reverse),na,nb-1,out.push y,mg,ac,bc))) O (setG st g):=by
  intro O out na nb mg ac bc g hd hg hna hla hnb iv hl;obtain⟨m,rfl⟩:∃m,nb=m+1:=⟨nb-1,by lia⟩
  simp only[Nat.add_sub_cancel] at hl ⊢;obtain⟨y1,hy1,U⟩:=aQe (a:=b) (i:=m) (by lia)
  obtain⟨x1,hx1,Y⟩:=aQe (a:=a) (i:=na-1) (by lia)
  have px1:=pa x1 (am Y);refine aA (aZa hy1 ?_);have iv2:Iv (rl lt) (a.toList++b.toList) (out.push y1).toList (a.toList.take na++b.toList.take m):=by
   rw[cG];exact iv.popB sb U (hl y1 U)
  have sp:(out.push y1).size=out.size+1:=dY ..
  by_cases c1:(m==1)=true
  ·refine aQy c1 ?_;exact aG (hd _ _ (finF _ _ _ g (by simpa using c1) iv2))
  refine aQz c1 ?_;have c1':m≠1:=by simpa using c1
  refine aA (aZa hx1 (aA (bZq o (f:=λi=>b.toList.getD (0+i) (.none,.none)) hk px1 (λi hi=>?_) (λi j hij hj hb=>?_) (by lia) λk k1 k2 k3=>?_)))
  ·obtain⟨z,hz,J⟩:=aQe (a:=b) (i:=0+i) (by lia)
   rw[aj,J];exact⟨hz,pb z (am J)⟩
  ·obtain⟨z,hz,J⟩:=aQe (a:=b) (i:=0+i) (by lia)
   obtain⟨z',hz',hzl'⟩:=aQe (a:=b) (i:=0+j) (by lia)
   rw[aj,hzl'] at hb;rw[aj,J];have hb':lt z' x1=true:=hb;show lt z x1=true;cases e:lt z x1 with
   |true=>rfl
   |false =>
    exfalso;have pz:=pb z (am J);have pz':=pb z' (am hzl');rcases Nat.eq_or_lt_of_le hij with rfl|hlt
    ·rw[J] at hzl';cases hzl';rw[e] at hb';cases hb'
    ·have:=o.tr x1 z z' px1 pz pz' e (sb.at (by lia) J hzl')
     rw[hb'] at this;cases this
  have ahead:∀u∈b.toList.take k,lt x1 u=false:=λu hu=>by
   obtain⟨j,hj,e⟩:=aQt hu
   have:=k2 j hj
   rw[aj,Nat.zero_add,e] at this;exact o.as _ _ (pb u (am e)) px1 this
  dsimp only
  by_cases ck:m-k>0
  ·refine aQy ck ?_;have iv3:Iv (rl lt) (a.toList++b.toList) (out.push y1++(b.extract k m).reverse).toList (a.toList.take na++b.toList.take k):=by
    rw[cL,gi,aZl];refine iv2.backB sb k1 λz hz u hu=>?_;obtain⟨j,hj,J⟩:=aZx hz;have pz:=pb z (am J);have hb:=k3 (k+j) (by lia) (by lia)
    rw[aj,Nat.zero_add,J] at hb
    have:=bJm o pa sa pz Y hb
    rw[show na-1+1=na by lia] at this
    exact this u hu
   have sz3:out.size<=(out.push y1++(b.extract k m).reverse).size:=by rw[ig];lia
   by_cases c3:(k==1)=true
   ·refine aQy c3 ?_;exact aG (hd _ _ (finF _ _ _ g (by simpa using c3) iv3))
   ·refine aQz c3 ?_;have c3':k≠1:=by simpa using c3
    by_cases c4:(k==0)=true
    ·have k0:k=0:=by simpa using c4
     refine aQy c4 ?_;refine aG (hd _ _ (finG _ _ _ g ?_ iv3));rw[k0,List.take_zero,ce];exact sa.take _
    ·refine aQz c4 ?_;have c4':k≠0:=by simpa using c4
     refine t2 O _ na k mg ac (m-k) g hd (λn1 n2 o' a1 b1 q1 q2 q3 q4=>hg n1 n2 o' a1 b1 q1 q2 q3 (by lia)) hna hla ⟨by lia,by lia⟩ iv3 λx hx u hu=>?_
     rw[Y] at hx;cases hx;exact ahead u hu
  ·refine aQz ck ?_;have ek:k=m:=by lia
   refine t2 O _ na m mg ac (m-k) g hd (λn1 n2 o' a1 b1 q1 q2 q3 q4=>hg n1 n2 o' a1 b1 q1 q2 q3 (by lia)) hna hla ⟨by lia,by lia⟩ iv2 λx hx u hu=>?_
   rw[Y] at hx;cases hx;exact ahead u (by rw[ek];exact hu)
 rw[fXx];refine aA (jh (dA ⟨rfl,?_⟩));dsimp only;obtain⟨x0,hx0,hx0l⟩:=aQe (a:=a) (i:=a.size-1) (by lia)
 refine aA (aZa hx0 ?_);have iv0:Iv (rl lt) (a.toList++b.toList) (#[x0]:Array aO).toList (a.toList.take (a.size-1)++b.toList.take b.size):=by
  have e1:a.toList.take (a.size-1+1)=a.toList:=bQ (by simp;lia)
  have e2:b.toList.take b.size=b.toList:=bQ (by simp)
  have i0:Iv (rl lt) (a.toList++b.toList) [] (a.toList.take (a.size-1+1)++b.toList.take b.size):=⟨by rw[e1,e2];exact dJ _,ff,by simp⟩
  exact i0.popA sa hx0l λu hu=>hlst x0 hx0l u (c6 hu)
 have est:st=setG st (gallopOf st):=rfl
 by_cases ha1:(a.size-1==0)=true
 ·refine aQy ha1 ?_;have a0:a.size-1=0:=by simpa using ha1
  refine aG ?_;rw[est];refine finG _ _ _ _ ?_ iv0;rw[a0];exact sb.take _
 refine aQz ha1 ?_
 by_cases hb1:(b.size==1)=true
 ·refine aQy hb1 ?_;refine aG ?_;rw[est];exact finF _ _ _ _ (by simpa using hb1) iv0
 refine aQz hb1 ?_;have hb2:2<=b.size:=by
  have:b.size≠1:=by simpa using hb1
  lia
 have ha2:1<=a.size-1:=by
  have:a.size-1≠0:=by simpa using ha1
  lia
 refine aA (iT ?_);refine aA (dG (ca (I:=λx c G=>∃ na nb out mg g,c=(none,na,nb,out,mg)/\G=setG st g/\1<=na/\na<=a.size/\(2<=nb/\nb<=b.size)/\Iv (rl lt) (a.toList++b.toList) out.toList (a.toList.take na++b.toList.take nb)/\x + 1<=out.size)
  (Q:=λc G=>∃r,c.fst=some r/\Q r G) ?_ ?_ ⟨_,_,#[x0],_,_,rfl,est,ha2,by lia,⟨hb2,Nat.le_refl _⟩,iv0,by simp⟩) ?_)
 ·intro x c G _ hx zq;refine hd λGq kq=>?_;obtain⟨na,nb,out,mg,g,rfl,rfl,hna,hla,hnb,iv,hsz⟩:=zq;refine kq ?_;dsimp only;refine aA (dG (ca (I:=λy c G=>∃ na' D B ac bc,c=(none,na',D,B,ac,bc)/\G=setG st g/\1<=na'/\na'<=a.size/\(2<=D/\D<=b.size)/\Iv (rl lt) (a.toList++b.toList) B.toList (a.toList.take na'++b.toList.take D)/\out.size + y<=B.size)
   (Q:=λc G=>G=setG st g/\((∃r,c.fst=some r/\Q r G)\/∃na' D B ac bc,c=(none,na',D,B,ac,bc)/\1<=na'/\na'<=a.size/\(2<=D/\D<=b.size)/\Iv (rl lt) (a.toList++b.toList) B.toList (a.toList.take na'++b.toList.take D)/\out.size+1<=B.size)) ?_ ?_ ⟨na,nb,out,0,0,rfl,rfl,hna,hla,hnb,iv,Nat.le_refl _⟩) ?_)
  ·intro y c G _ hy zq;refine hd λGq kq=>?_;obtain⟨na',D,B,ac,bc,rfl,rfl,hna',hla',hnb',iv',hsz'⟩:=zq;refine kq ?_;obtain⟨ma,rfl⟩:∃m,na'=m+1:=⟨na'-1,by lia⟩
   obtain⟨mb,rfl⟩:∃m,D=m+1:=⟨D-1,by lia⟩
   obtain⟨x1,hx1,Y⟩:=aQe (a:=a) (i:=ma) (by lia)
   obtain⟨y1,hy1,U⟩:=aQe (a:=b) (i:=mb) (by lia)
   have px1:=pa x1 (am Y);have py1:=pb y1 (am U);dsimp only;simp only[Nat.add_sub_cancel];refine aA (aZa hy1 (aA (aZa hx1 (aA (dQo o hk py1 px1 ?_)))));dsimp only;cases e:lt y1 x1 with
   |true =>
    refine aQy rfl ?_;refine aA (aZa hx1 ?_);have iv2:Iv (rl lt) (a.toList++b.toList) (B.push x1).toList (a.toList.take ma++b.toList.take (mb+1)):=by
     rw[cG];exact iv'.popA sa Y (bJm o pb sb px1 U (o.as _ _ py1 px1 e))
    have sp:(B.push x1).size=B.size+1:=dY ..
    by_cases c1:(ma==0)=true
    ·have m0:ma=0:=by simpa using c1
     refine aQy c1 ?_;refine aG ⟨rfl,.inl ⟨_,rfl,finG _ _ _ g ?_ iv2⟩⟩;rw[m0];exact sb.take _
    ·refine aQz c1 ?_;have c1':ma≠0:=by simpa using c1
     by_cases c2:ac+1>=mg
     ·refine aQy c2 ?_;exact aG ⟨rfl,.inr ⟨_,_,_,_,_,rfl,by lia,by lia,hnb',iv2,by lia⟩⟩
     ·refine aQz c2 ?_;exact aG ⟨_,_,_,_,_,rfl,rfl,by lia,by lia,hnb',iv2,by lia⟩
   |false =>
    refine aQz (by simp) ?_
    refine aA (aZa hy1 ?_);have iv2:Iv (rl lt) (a.toList++b.toList) (B.push y1).toList (a.toList.take (ma+1)++b.toList.take mb):=by
     rw[cG];exact iv'.popB sb U (bJm o pa sa py1 Y e)
    have sp:(B.push y1).size=B.size+1:=dY ..
    by_cases c1:(mb==1)=true
    ·refine aQy c1 ?_;exact aG ⟨rfl,.inl ⟨_,rfl,finF _ _ _ g (by simpa using c1) iv2⟩⟩
    ·refine aQz c1 ?_;have c1':mb≠1:=by simpa using c1
     by_cases c2:bc+1>=mg
     ·refine aQy c2 ?_;exact aG ⟨rfl,.inr ⟨_,_,_,_,_,rfl,by lia,by lia,⟨by lia,by lia⟩,iv2,by lia⟩⟩
     ·refine aQz c2 ?_;exact aG ⟨_,_,_,_,_,rfl,rfl,by lia,by lia,⟨by lia,by lia⟩,iv2,by lia⟩
  ·intro c G zq;refine hd λGq kq=>?_;obtain⟨na',D,B,ac,bc,rfl,rfl,hna',hla',hnb',iv',hsz'⟩:=zq;refine kq ?_;exact⟨rfl,.inr ⟨_,_,_,_,_,rfl,hna',hla',hnb',iv',by lia⟩⟩
  ·rintro c G ⟨rfl,⟨r,hr,q⟩|⟨na1,nb1,out1,ac1,bc1,rfl,hna1,hla1,hnb1,iv1,hsz1⟩⟩
   ·obtain⟨c1,c2⟩:=c;dsimp only at hr;subst hr;exact aG ⟨r,rfl,q⟩
   ·dsimp only;refine aA (jh (dA ⟨rfl,?_⟩));refine aA (dG (ca (I:=λy c G=>∃ na' D B mg' ac bc g',c=(none,na',D,B,mg',ac,bc)/\G=setG st g'/\1<=na'/\(na'<=a.size/\2<=D/\D<=b.size)/\Iv (rl lt) (a.toList++b.toList) B.toList (a.toList.take na'++b.toList.take D)/\out1.size<=B.size)
     (Q:=λc G=>(∃r,c.fst=some r/\Q r G)\/∃na' D B mg' ac bc g',c=(none,na',D,B,mg',ac,bc)/\G=setG st g'/\1<=na'/\(na'<=a.size/\2<=D/\D<=b.size)/\Iv (rl lt) (a.toList++b.toList) B.toList (a.toList.take na'++b.toList.take D)/\out1.size<=B.size) ?_ ?_ ⟨na1,nb1,out1,_,ac1,bc1,g,rfl,rfl,hna1,⟨hla1,hnb1⟩,iv1,Nat.le_refl _⟩) ?_)
    ·intro y c G _ hy zq;refine hd λGq kq=>?_;obtain⟨na',D,B,mg',ac,bc,g',rfl,rfl,hna',⟨hla',hnb'⟩,iv',hsz'⟩:=zq;refine kq ?_;dsimp only;obtain⟨y1,hy1,U⟩:=aQe (a:=b) (i:=D-1) (by lia)
     have py1:=pb y1 (am U);have fa:∀i,i<na'->a[0+i]?=some (a.toList.getD (0+i) (.none,.none))/\P (a.toList.getD (0+i) (.none,.none)):=λi hi=>by
      obtain⟨z,hz,J⟩:=aQe (a:=a) (i:=0+i) (by lia)
      rw[aj,J];exact⟨hz,pa z (am J)⟩
     have mono:∀i j,i<=j->j<na'->bv lt false y1 (a.toList.getD (0+j) (.none,.none))=true->bv lt false y1 (a.toList.getD (0+i) (.none,.none))=true:=λi j hij hj hb=>by
      obtain⟨z,hz,J⟩:=aQe (a:=a) (i:=0+i) (by lia)
      obtain⟨z',hz',hzl'⟩:=aQe (a:=a) (i:=0+j) (by lia)
      rw[aj,hzl'] at hb;rw[aj,J];have hb':lt y1 z'=false:=by simpa [bv] using hb
      show(!lt y1 z)=true;rcases Nat.eq_or_lt_of_le hij with rfl|hlt
      ·rw[J] at hzl';cases hzl';rw[hb'];rfl
      ·rw[o.tr z z' y1 (pa z (am J)) (pa z' (am hzl')) py1 (sa.at (by lia) J hzl') hb'];rfl
     clear kq
     revert mg'
     refine eQw (λ_=>rfl) λm2=>?_;refine aA (c8 (aA (aZa hy1 (aA (bZq o hk py1 fa mono (by lia) λk k1 k2 k3=>?_)))))
     dsimp only;have ahead:∀u∈a.toList.take k,lt y1 u=false:=λu hu=>by
      obtain⟨j,hj,e⟩:=aQt hu
      have:=k2 j hj
      rw[aj,Nat.zero_add,e] at this;have h1:(!lt y1 u)=true:=this;simpa using h1
     by_cases ck:na'-k>0
     ·refine aQy ck ?_;have iv3:Iv (rl lt) (a.toList++b.toList) (B++(a.extract k na').reverse).toList (a.toList.take k++b.toList.take D):=by
       rw[cL,gi,aZl];refine iv'.backA sa k1 λz hz u hu=>?_;obtain⟨j,hj,J⟩:=aZx hz;have hb:=k3 (k+j) (by lia) (by lia)
       rw[aj,Nat.zero_add,J] at hb;have h1:(!lt y1 z)=false:=hb;have pz:=pa z (am J)
       have:=bJm o pb sb pz U (o.as _ _ py1 pz (by simpa using h1))
       rw[show D-1+1=D by lia] at this
       exact this u hu
      have sz3:out1.size<=(B++(a.extract k na').reverse).size:=by rw[ig];lia
      by_cases c3:(k==0)=true
      ·have k0:k=0:=by simpa using c3
       refine aQy c3 ?_;refine aG (.inl ⟨_,rfl,finG _ _ _ _ ?_ iv3⟩);rw[k0];exact sb.take _
      ·refine aQz c3 ?_;have c3':k≠0:=by simpa using c3
       refine t1 _ _ k D m2 (na'-k) bc m2 (λr c' q=>.inl ⟨r,rfl,q⟩) (λn1 n2 o' a1 b1 q1 q2 q3 q4=>⟨.inr ⟨_,_,_,_,_,_,_,rfl,rfl,q1,q2,q3,by lia⟩,⟨_,_,_,_,_,_,_,rfl,rfl,q1,q2,q3,by lia⟩⟩) (by lia) (by lia) hnb' iv3 λy hy u hu=>?_
       rw[U] at hy;cases hy;exact ahead u hu
     ·refine aQz ck ?_;have ek:k=na':=by lia
      refine t1 _ _ na' D m2 (na'-k) bc m2 (λr c' q=>.inl ⟨r,rfl,q⟩) (λn1 n2 o' a1 b1 q1 q2 q3 q4=>⟨.inr ⟨_,_,_,_,_,_,_,rfl,rfl,q1,q2,q3,by lia⟩,⟨_,_,_,_,_,_,_,rfl,rfl,q1,q2,q3,by lia⟩⟩) hna' hla' hnb' iv' λy hy u hu=>?_
      rw[U] at hy;cases hy;exact ahead u (by rw[ek];exact hu)
    ·intro c G zq;refine hd λGq kq=>?_;obtain⟨na',D,B,mg',ac,bc,g',rfl,rfl,hna',hl',iv',hsz'⟩:=zq;refine kq ?_;exact .inr ⟨_,_,_,_,_,_,_,rfl,rfl,hna',hl',iv',hsz'⟩
    ·rintro c G (⟨r,hr,q⟩|⟨na',D,B,mg',ac,bc,g',rfl,rfl,hna',hl',iv',hsz'⟩)
     ·obtain⟨c1,c2⟩:=c;dsimp only at hr;subst hr;exact aG ⟨r,rfl,q⟩
     ·dsimp only;exact aA (c8 (aG ⟨_,_,_,_,_,rfl,rfl,hna',hl'.1,hl'.2,iv',by lia⟩))
 ·intro c G zq;refine hd λGq kq=>?_;obtain⟨na,nb,out,mg,g,rfl,rfl,hna,hla,hnb,iv,hsz⟩:=zq;refine kq ?_;exfalso
  have:=iv.size
  rw[sz,aW] at this;lia
 ·rintro c G ⟨r,hr,q⟩;obtain⟨c1,c2⟩:=c;dsimp only at hr;subst hr;exact aG q
end
theorem fXz(i:Nat):mergeAt' i=(do
 let s <- get
 let (some (sa,na,pw),some (sb,nb,_)):=((bY s)[i]?,(bY s)[i+1]?)|fH "internal:list.sort.pending"
 set (gj s (((bY s).setIfInBounds i (sa,na+nb,pw)).eraseIdxIfInBounds (i+1)))
 let some k <- gal false (<- eU (aT s) sb) (aT s) sa na 0|return false
 let (sa,na):=(sa+k,na-k)
 if na==0 then return true
 let some nb <- gal true (<- eU (aT s) (sa+na-1)) (aT s) sb nb (nb-1)|return false
 if nb==0 then return true
 let x:=(aT s).extract sa sb
 let y:=(aT s).extract sb (sb+nb)
 let m <- if na<=nb then mLo x y else mHi x y
 modify λs=>cX s (m.toList.zipIdx.foldl (λa (p,j)=>a.setIfInBounds (sa+j) p) (aT s))
 return (gh (<- get)).isNone):=rfl
theorem eJ0{st st':σ}{Q:PUnit->σ->Prop}(h:Q ⟨⟩ st'):wpS M A E s (set st') Q st:=ad ⟨rfl,h⟩
theorem cZl(off:Nat):∀(M:List aO) (k:Nat) (xs:Array aO),off+k+M.length<=xs.size->((M.zipIdx k).foldl (λa pj=>a.setIfInBounds (off+pj.2) pj.1) xs).toList=xs.toList.take (off+k)++M++xs.toList.drop (off+k+M.length)
 |[],k,xs,h=>by simp
 |x::M,k,xs,h=>by
  rw[List.zipIdx_cons,List.foldl_cons,cZl off M (k+1) _ (by simp at h ⊢;lia)]
  simp only[ji];rw[az] at h ⊢;have hl:off+k<xs.toList.length:=by simp;lia
  rw[show off+(k+1)=off+k+1 by lia,List.take_set,List.drop_set_of_lt (by lia),List.set_eq_take_append_cons_drop]
  have j:(off+k)<(xs.toList.take (off+k+1)).length:=by rw[aP];lia
  rw[if_pos j,List.take_take,Nat.min_eq_left (by lia),bE (by rw[aP];lia)]
  simp[be,show off+k+1+M.length=off+k+(M.length+1) by lia]
section
variable{prog:ax}{w:aK}{A:aU}{E:ab->ag->Prop}{s:ag}{κ:fE}{P:aO->Prop}{lt:aO->aO->Bool}
theorem fJ0(o:Orc prog w A s κ P lt){st:c7}{i sa na pw sb nb pw':Nat}{L1 Aa Bb L2:List aO}{Q:Bool->c7->Prop}(hk:kindOf st=κ)(hf:gh st=none)(hp1:(bY st)[i]?=some (sa,na,pw))(hp2:(bY st)[i+1]?=some (sb,nb,pw'))
  (hsb:sb=sa+na) (hl:(aT st).toList=L1++(Aa++(Bb++L2))) (l1:L1.length=sa) (lA:Aa.length=na) (lB:Bb.length=nb) (na1:1<=na) (nb1:1<=nb) (PA:∀x∈Aa,P x) (PB:∀x∈Bb,P x) (sA:Sd lt Aa) (sB:Sd lt Bb)
  (h:∀C g xs,xs.toList=L1++(C++L2)->Sd lt C->C.Perm (Aa++Bb)->Q true (jg κ xs (((bY st).setIfInBounds i (sa,na+nb,pw)).eraseIdxIfInBounds (i+1)) g none)):wpS (aF prog w) A E s (mergeAt' i) Q st:=by
 have hsz:(aT st).size=sa+na+nb+L2.length:=by
  have:=congrArg dU hl
  simp only[aW,au] at this;lia
 have atA:∀j x,Aa[j]?=some x->(aT st)[sa+j]?=some x:=λj x B=>by
  have hjl:=(aH.mp B).1;rw[<- aS,hl,cA (by lia),l1,Nat.add_sub_cancel_left,d0 hjl];exact B
 have atB:∀j x,Bb[j]?=some x->(aT st)[sb+j]?=some x:=λj x B=>by
  have hjl:=(aH.mp B).1;rw[<- aS,hl,cA (by lia),l1,cA (by lia),lA,d0 (by lia)]
  rw[show sb+j-sa-na=j by lia];exact B
 have Y:∀j,j<na->∃x,Aa[j]?=some x:=λj B=>⟨Aa[j],af (by lia)⟩
 have U:∀j,j<nb->∃x,Bb[j]?=some x:=λj B=>⟨Bb[j],af (by lia)⟩
 obtain⟨b0,hb0⟩:=U 0 nb1;have pb0:=PB b0 (am hb0);rw[fXz];refine aA (iT ?_);rw[hp1,hp2];dsimp only;refine aA (eJ0 ?_);have hk2:kindOf (gj st (((bY st).setIfInBounds i (sa,na+nb,pw)).eraseIdxIfInBounds (i+1)))=κ:=hk;have est:∀g xs,cX (setG (gj st (((bY st).setIfInBounds i (sa,na+nb,pw)).eraseIdxIfInBounds (i+1))) g) xs=jg κ xs (((bY st).setIfInBounds i (sa,na+nb,pw)).eraseIdxIfInBounds (i+1)) g none:=λg xs=>by
  show jg (kindOf st) xs _ g (gh st)=_;rw[hk,hf]
 refine aA (aZa (x:=b0) (by have:=atB 0 b0 hb0;rwa [Nat.add_zero] at this) (aA (bZq o (f:=λj=>Aa.getD j (.none,.none)) hk2 pb0 (λj B=>?_) (λj j' hjj B hb=>?_) (by lia) λk k1 k2 k3=>?_)))
 ·obtain⟨x,G⟩:=Y j B;rw[aj,G];exact⟨atA j x G,PA x (am G)⟩
 ·obtain⟨z,hz⟩:=Y j (by lia)
  obtain⟨z',hz'⟩:=Y j' B;rw[aj,hz'] at hb;rw[aj,hz];have hb':lt b0 z'=false:=by simpa [bv] using hb
  show(!lt b0 z)=true;rcases Nat.eq_or_lt_of_le hjj with rfl|hlt
  ·rw[hz] at hz';cases hz';rw[hb'];rfl
  ·rw[o.tr z z' b0 (PA z (am hz)) (PA z' (am hz')) pb0 (sA.at hlt hz hz') hb'];rfl
 have lowA:∀u∈Aa.take k,∀v∈Bb,lt v u=false:=λu J v O=>by
  obtain⟨j,B,e⟩:=aQt J
  have:=k2 j B
  rw[aj,e] at this;have h1:(!lt b0 u)=true:=this;exact bJl o PB sB (PA u (am e)) hb0 (by simpa using h1) v O
 have upA:∀u∈Aa.drop k,lt u b0=false:=λu J=>by
  obtain⟨j,B,e⟩:=aQp J;have hjl:=(aH.mp e).1
  have:=k3 j B (by lia)
  rw[aj,e] at this;have h1:(!lt b0 u)=false:=this;exact o.as _ _ pb0 (PA u (am e)) (by simpa using h1)
 dsimp only;have whole:=λg hs=>by
  have:=h (Aa++Bb) g (aT st) (by rw[hl,be]) hs (dJ _)
  rw[<- est g (aT st)] at this;exact this
 by_cases c1:(na-k==0)=true
 ·rw[if_pos c1];have kn:k=na:=by
   have:na-k=0:=by simpa using c1
   lia
  refine aG (whole _ (a9.mpr ⟨sA,sB,λu J v O=>lowA u ?_ v O⟩));rw[kn,<- lA,cx];exact J
 rw[if_neg c1];have c1':na-k≠0:=by simpa using c1
 obtain⟨al,hal⟩:=Y (na-1) (by lia)
 have pal:=PA al (am hal);refine aA (aZa (by have:=atA _ al hal;rwa [show sa+k+(na-k)-1=sa+(na-1) by lia]) (aA (bZq o (f:=λj=>Bb.getD j (.none,.none)) hk2 pal (λj B=>?_) (λj j' hjj B hb=>?_) (by lia) λm m1 m2 m3=>?_)))
 ·obtain⟨x,G⟩:=U j B;rw[aj,G];exact⟨atB j x G,PB x (am G)⟩
 ·obtain⟨z,hz⟩:=U j (by lia)
  obtain⟨z',hz'⟩:=U j' B;rw[aj,hz'] at hb;rw[aj,hz];have hb':lt z' al=true:=hb;show lt z al=true;cases e:lt z al with
  |true=>rfl
  |false =>
   exfalso;have pz:=PB z (am hz);have pz':=PB z' (am hz');rcases Nat.eq_or_lt_of_le hjj with rfl|hlt
   ·rw[hz] at hz';cases hz';rw[e] at hb';cases hb'
   ·have:=o.tr al z z' pal pz pz' e (sB.at hlt hz hz')
    rw[hb'] at this;cases this
 have upB:∀v∈Bb.drop m,∀u∈Aa,lt v u=false:=λv O u J=>by
  obtain⟨j,B,e⟩:=aQp O;have hjl:=(aH.mp e).1
  have:=m3 j B (by lia)
  rw[aj,e] at this;have h1:=this
  have:=bJm o PA sA (PB v (am e)) hal h1
  rw[show na-1+1=Aa.length by lia,cx] at this
  exact this u J
 have lowB:∀v∈Bb.take m,lt al v=false:=λv O=>by
  obtain⟨j,B,e⟩:=aQt O
  have:=m2 j B
  rw[aj,e] at this;exact o.as _ _ (PB v (am e)) pal this
 dsimp only
 by_cases c2:(m==0)=true
 ·rw[if_pos c2];have m0:m=0:=by simpa using c2
  refine aG (whole _ (a9.mpr ⟨sA,sB,λu J v O=>upB v ?_ u J⟩));rw[m0];exact O
 rw[if_neg c2];have c2':m≠0:=by simpa using c2
 have ex:((aT st).extract (sa+k) sb).toList=Aa.drop k:=by
  rw[aZl,hl,<- l1,gw,bE (by lia),bW,Nat.add_sub_cancel_left,iL (by lia),eF (by rw[bR];lia)]
  exact bQ (by rw[bR];lia)
 have ey:((aT st).extract sb (sb+m)).toList=Bb.take m:=by
  rw[aZl,hl,Nat.add_sub_cancel_left,gw,bE (by lia),bW,gw,bE (by lia),bW,show sb-L1.length-Aa.length=0 by lia,kD,eF (by lia)]
 have zx:((aT st).extract (sa+k) sb).size=na-k:=by rw[<- aW,ex,bR,lA]
 have zy:((aT st).extract sb (sb+m)).size=m:=by rw[<- aW,ey,aP];lia
 have fin:∀ (M:Array aO) g,Sd lt M.toList->M.toList.Perm (((aT st).extract (sa + k) sb).toList++((aT st).extract sb (sb + m)).toList)->wpS (aF prog w) A E s (do
   modify λs=>cX s (M.toList.zipIdx.foldl (λa Z=>a.setIfInBounds (sa+k+Z.2) Z.1) (aT s))
   let z <- get
   pure (gh z).isNone) Q (setG (gj st (((bY st).setIfInBounds i (sa,na+nb,pw)).eraseIdxIfInBounds (i+1))) g):=λM g hs D=>by
  refine aA (c8 (aA (iT (aG ?_))));rw[ex,ey] at D;have ml:=D.length_eq;rw[au,bR,aP] at ml;have ll:=cZl (sa+k) M.toList 0 (aT st) (by lia)
  have hfn:(gh (cX (setG (gj st (((bY st).setIfInBounds i (sa,na+nb,pw)).eraseIdxIfInBounds (i+1))) g) (M.toList.zipIdx.foldl (λa Z=>a.setIfInBounds (sa+k+Z.2) Z.1) (aT st)))).isNone=true:=by
   rw[hf];rfl
  have main:=h (Aa.take k++(M.toList++Bb.drop m)) g (M.toList.zipIdx.foldl (λa Z=>a.setIfInBounds (sa+k+Z.2) Z.1) (aT st)) ?_ ?_ ?_
  ·rw[<- est g] at main;have e0:=hfn;exact(e0.symm▸main)
  ·rw[ll,hl];have t1:(L1++(Aa++(Bb++L2))).take (sa+k+0)=L1++Aa.take k:=by
    rw[<- l1,Nat.add_zero,List.take_append,bQ (by lia),Nat.add_sub_cancel_left,eF (by lia)]
   have t2:(L1++(Aa++(Bb++L2))).drop (sa+k+0+M.toList.length)=Bb.drop m++L2:=by
    rw[gw,bE (by lia),bW,gw,bE (by lia),bW,show sa+k+0+M.toList.length-L1.length-Aa.length=m by lia,iL (by lia)]
   rw[t1,t2];simp only[be]
  ·have sA':Sd lt (Aa.take k++Aa.drop k):=by rw[bA];exact sA
   have sB':Sd lt (Bb.take m++Bb.drop m):=by rw[bA];exact sB
   obtain⟨a1,_,a3⟩:=a9.mp sA';obtain⟨_,b2,b3⟩:=a9.mp sB';refine a9.mpr ⟨a1,a9.mpr ⟨hs,b2,λu J v O=>?_⟩,λu J v O=>?_⟩
   ·rcases aY.mp (D.mem_iff.mp J) with z|z
    ·exact upB v O u (eD z)
    ·exact b3 u z v O
   ·rcases aY.mp O with z|z
    ·rcases aY.mp (D.mem_iff.mp z) with y|y
     ·exact a3 u J v y
     ·exact lowA u J v (c6 y)
    ·exact lowA u J v (eD z)
  ·have e1:(Aa++Bb)=Aa.take k++(Aa.drop k++(Bb.take m++Bb.drop m)):=by rw[<- be,bA,bA]
   rw[e1];refine eW _ ?_;rw[<- be];exact eM _ D
 have pX:∀x∈((aT st).extract (sa+k) sb).toList,P x:=λx G=>PA x (eD (by rw[ex] at G;exact G))
 have pY:∀x∈((aT st).extract sb (sb+m)).toList,P x:=λx G=>PB x (c6 (by rw[ey] at G;exact G))
 have hF:∀y,((aT st).extract sb (sb+m)).toList[0]?=some y->∀x∈((aT st).extract (sa+k) sb).toList,lt x y=false:=λy hy x G=>by
  rw[ey,gF (by lia),hb0] at hy
  cases hy;rw[ex] at G;exact upA x G
 have hL:∀z,((aT st).extract (sa+k) sb).toList[((aT st).extract (sa+k) sb).size-1]?=some z->∀y∈((aT st).extract sb (sb+m)).toList,lt z y=false:=λz hz y hy=>by
  rw[ex,zx,List.getElem?_drop,show k+(na-k-1)=na-1 by lia,hal] at hz
  cases hz;rw[ey] at hy;exact lowB y hy
 have sX:Sd lt ((aT st).extract (sa+k) sb).toList:=by rw[ex];exact sA.drop k
 have sY:Sd lt ((aT st).extract sb (sb+m)).toList:=by rw[ey];exact sB.take m
 by_cases c3:na-k<=m
 ·rw[if_pos c3];exact aA (fXw o hk2 pX pY sX sY (by lia) (by lia) hF hL λM g hs D=>fin M g hs D)
 ·rw[if_neg c3];exact aA (fXy o hk2 pX pY sX sY (by lia) (by lia) hF hL λM g hs D=>fin M g hs D)
end
def at0(xs:Array aO)(i:Nat):aO:=(xs[i]?).getD (.none,.none)
theorem dQq(h:xs[i]?=ys[j]?):at0 xs i=at0 ys j:=by unfold at0;rw[h]
def Gd(lo:Nat)(a xs:Array aO):Prop:=xs.Perm a/\∀i,i<lo->xs[i]?=a[i]?
theorem Gd.size{lo:Nat}(h:Gd lo a xs):xs.size=a.size:=h.1.size_eq
def Up(lt:aO->aO->Bool)(xs:Array aO)(i j:Nat):Prop:=∀p q,i<=p->p<q->q<j->lt (at0 xs q) (at0 xs p)=false
def Dn(lt:aO->aO->Bool)(xs:Array aO)(i j:Nat):Prop:=∀p q,i<=p->p<q->q<j->lt (at0 xs p) (at0 xs q)=false
def Eqs(lt:aO->aO->Bool)(xs:Array aO)(i j:Nat):Prop:=∀p q,i<=p->p<j->i<=q->q<j->lt (at0 xs p) (at0 xs q)=false
theorem bQk(hj:j<=xs.size)(k:Nat):at0 (dZ xs i j ((j-i)/2)) k=if i<=k/\k<j then at0 xs (i+j-1-k) else at0 xs k:=by
 have e:=getElem?_mirror_all (i:=i) hj k
 split at e
 ·next h=>rw[if_pos h];exact dQq e
 ·next h=>rw[if_neg h];exact dQq e
theorem Gd.rev{lo i j d:Nat}(h:Gd lo a xs)(hi:lo<=i)(hj:j<=xs.size)(hd:d=(j-i)/2):Gd lo a (dZ xs i j d):=by
 subst hd;refine⟨(mirror_perm _ _ _ _).trans h.1,λk z=>?_⟩;rw[getElem?_mirror_all hj,if_neg (by lia)]
 exact h.2 k z
section
variable{prog:ax}{w:aK}{A:aU}{E:ab->ag->Prop}{s:ag}{κ:fE}{P:aO->Prop}{lt:aO->aO->Bool}
theorem gd_P{lo:Nat}(h:Gd lo a xs)(PA:∀x∈a.toList,P x){i:Nat}(hi:i<a.size):xs[i]?=some (at0 xs i)/\P (at0 xs i):=by
 have j:i<xs.size:=by rw[h.size];exact hi
 have e:xs[i]?=some xs[i]:=getElem?_pos _ i j;have z:at0 xs i=xs[i]:=by unfold at0;rw[e];rfl
 rw[z];exact⟨e,PA _ ((c9.mp h.1).mem_iff.mp (by simp))⟩
theorem aZb(o:Orc prog w A s κ P lt){st:c7}{xs:Array aO}{lo i j:Nat}{Q:Option Bool->c7->Prop}(hk:kindOf st=κ)(PA:∀x∈(aT st).toList,P x)(g:Gd lo (aT st) xs)(hi:i<(aT st).size)(hj:j<(aT st).size)(h:Q (some (lt (at0 xs i) (at0 xs j))) (cX st xs)) :
  wpS (aF prog w) A E s (ltAt' i j) Q (cX st xs):=by
 rw[ltAt'_eq];refine aA (iT ?_);obtain⟨D,z⟩:=gd_P g PA hi;obtain⟨B,p2⟩:=gd_P g PA hj;exact aA (aZa D (aA (aZa B (dQo o hk z p2 h))))
theorem irr(o:Orc prog w A s κ P lt){x:aO}(hx:P x):lt x x=false:=by
 cases e:lt x x with
 |false=>rfl
 |true=>exact absurd (e.symm.trans (o.as x x hx hx e)) (by decide)
variable{st:c7}{xs:Array aO}{lo:Nat}
theorem Up.more(o:Orc prog w A s κ P lt){i j:Nat}(hP:∀p,p<=j->P (at0 xs p))(h:Up lt xs i j)(hij:i<j)(e:lt (at0 xs j) (at0 xs (j-1))=false):Up lt xs i (j+1):=λp q h1 h2 B=>by
 rcases Nat.lt_or_ge q j with z|z
 ·exact h p q h1 h2 z
 ·have:q=j:=by lia
  subst this;rcases Nat.lt_or_ge p (q-1) with y|y
  ·exact o.tr _ _ _ (hP p (by lia)) (hP (q-1) (by lia)) (hP q (by lia)) (h p (q-1) h1 y (by lia)) e
  ·have:p=q-1:=by lia
   rw[this];exact e
theorem Dn.more(o:Orc prog w A s κ P lt){i j:Nat}(hP:∀p,p<=j->P (at0 xs p))(h:Dn lt xs i j)(hij:i<j)(e:lt (at0 xs (j-1)) (at0 xs j)=false):Dn lt xs i (j+1):=λp q h1 h2 B=>by
 rcases Nat.lt_or_ge q j with z|z
 ·exact h p q h1 h2 z
 ·have:q=j:=by lia
  subst this;rcases Nat.lt_or_ge p (q-1) with y|y
  ·exact o.tr _ _ _ (hP q (by lia)) (hP (q-1) (by lia)) (hP p (by lia)) e (h p (q-1) h1 y (by lia))
  ·have:p=q-1:=by lia
   rw[this];exact e
theorem Dn.rev(h:Dn lt xs i j)(hj:j<=xs.size)(hd:d=(j-i)/2):Up lt (dZ xs i j d) i j:=λp q h1 h2 z=>by
 subst hd;rw[bQk hj,bQk hj,if_pos ⟨by lia,by lia⟩,if_pos ⟨by lia,by lia⟩]
 exact h _ _ (by lia) (by lia) (by lia)
theorem Dn.eqs(h:Dn lt xs i j)(hc:i<=c)(he:Eqs lt xs c j)(hj:j<=xs.size)(hd:d=(j-c)/2):Dn lt (dZ xs c j d) i j:=λp q h1 h2 z=>by
 subst hd;rw[bQk hj,bQk hj]
 by_cases a1:c<=p/\p<j
 ·rw[if_pos a1,if_pos ⟨by lia,by lia⟩]
  exact he _ _ (by lia) (by lia) (by lia) (by lia)
 ·rw[if_neg a1]
  by_cases a2:c<=q/\q<j
  ·rw[if_pos a2];exact h _ _ h1 (by lia) (by lia)
  ·rw[if_neg a2];exact h _ _ h1 h2 z
theorem fJ1(o:Orc prog w A s κ P lt){nrem:Nat}{Q:Option Nat->c7->Prop}(hk:kindOf st=κ)(PA:∀x∈(aT st).toList,P x)(hn:1<=nrem)(hs:lo+nrem<=(aT st).size)
  (h:∀n xs,1<=n->n<=nrem->Gd lo (aT st) xs->Up lt xs lo (lo+n)->Q (some n) (cX st xs)):wpS (aF prog w) A E s (countRun' lo nrem) Q st:=by
 have G:∀ {xs},Gd lo (aT st) xs->∀ p,p < (aT st).size->P (at0 xs p):=λg p J=>(gd_P g PA J).2;rw[countRun'_eq];dsimp only;have est:st=cX st (aT st):=rfl;have g0:Gd lo (aT st) (aT st):=⟨ki _,λ_ _=>rfl⟩;refine aA (dG (ca (I:=λx c B=>B=cX st (aT st)/\c=(none,x)/\1<=x/\Up lt (aT st) lo (lo + x))
  (Q:=λc B=>B=cX st (aT st)/\∃n,c=(none,n)/\1<=n/\n<=nrem/\Up lt (aT st) lo (lo+n)/\(n<nrem->lt (at0 (aT st) (lo+n)) (at0 (aT st) (lo+n-1))=true)) ?_ ?_ ⟨est,rfl,Nat.le_refl _,λp q _ _ _=>by lia⟩) ?_)
 ·rintro x c B _ hx ⟨rfl,rfl,h1,D⟩;dsimp only;refine aA (aZb o (i:=lo+x) (j:=lo+x-1) hk PA g0 (by lia) (by lia) ?_)
  dsimp only;cases e:lt (at0 (aT st) (lo+x)) (at0 (aT st) (lo+x-1)) with
  |true=>rw[if_pos rfl];exact aG ⟨rfl,x,rfl,h1,by lia,D,λ_=>e⟩
  |false=>rw[if_neg (by simp)];exact aG ⟨rfl,rfl,by lia,Up.more o (i:=lo) (j:=lo+x) (λp J=>G g0 p (by lia)) D (by lia) e⟩
 ·rintro c B ⟨rfl,rfl,h1,D⟩;refine⟨rfl,_,rfl,by lia,by lia,D,λz=>by lia⟩
 ·rintro c B ⟨rfl,n,rfl,U,O,D,hlt⟩;dsimp only
  by_cases c0:(n==nrem)=true
  ·rw[if_pos c0];exact aG (h n _ U O g0 D)
  rw[if_neg c0];have c0':n<nrem:=by
   have:n≠nrem:=by simpa using c0
   lia
  have hlt':=hlt c0';have pp:∀p,p<=lo+n->P (at0 (aT st) p):=λp J=>G g0 p (by lia)
  have hle:=o.as _ _ (pp _ (Nat.le_refl _)) (pp _ (by lia)) hlt'
  by_cases cn:n>1
  ·rw[if_pos cn];refine aA (aZb o (i:=lo) (j:=lo+n-1) hk PA g0 (by lia) (by lia) ?_)
   dsimp only;cases e:lt (at0 (aT st) lo) (at0 (aT st) (lo+n-1)) with
   |true=>rw[if_pos rfl];exact aG (h n _ U O g0 D)
   |false =>
    rw[if_neg (by simp),dH]
    have down:∀p,lo<=p->p<lo+n->lt (at0 (aT st) p) (at0 (aT st) (lo+n-1))=false:=λp h1 h2=>by
     rcases Nat.eq_or_lt_of_le h1 with rfl|h1
     ·exact e
     ·exact o.tr _ _ _ (pp _ (by lia)) (pp _ (by lia)) (pp _ (by lia)) e (D lo p (Nat.le_refl _) h1 h2)
    have dn:Dn lt (aT st) lo (lo+n):=λp q h1 h2 h3=>by
     rcases Nat.eq_or_lt_of_le (show q<=lo+n-1 by lia) with z|z
     ·rw[z];exact down p h1 (by lia)
     ·exact o.tr _ _ _ (pp _ (by lia)) (pp _ (by lia)) (pp _ (by lia)) (D q (lo+n-1) (by lia) z (by lia)) (down p h1 (by lia))
    have eqs:Eqs lt (aT st) lo (lo+n):=λp q h1 h2 h3 h4=>by
     rcases Nat.lt_trichotomy p q with z|z|z
     ·exact dn p q h1 z h4
     ·subst z;exact irr o (pp _ (by lia))
     ·exact D q p h3 z h2
    have g2:Gd lo (aT st) (dZ (aT st) lo (lo+n) ((lo+n-lo)/2)):=g0.rev (Nat.le_refl _) (by lia) rfl
    have hd:Dn lt (dZ (aT st) lo (lo+n) ((lo+n-lo)/2)) lo (lo+(n+1)):=by
     refine Dn.more o (i:=lo) (j:=lo+n) (λp J=>G g2 p (by lia)) (dn.eqs (Nat.le_refl _) eqs (by lia) rfl) (by lia) ?_
     have rv:=bQk (xs:=aT st) (i:=lo) (j:=lo+n) (by lia)
     rw[rv,rv,if_pos ⟨by lia,by lia⟩,if_neg (by lia)]
     exact o.tr _ _ _ (pp _ (by lia)) (pp (lo+n-1) (by lia)) (pp _ (by lia)) hle (down _ (by lia) (by lia))
    have O:=c0';refine aA (c8 ?_);change wpS _ _ _ _ _ _ (cX st (dZ (aT st) lo (lo+n) ((lo+n-lo)/2)))
    rename Gd lo (aT st) (dZ (aT st) lo (lo+n) ((lo+n-lo)/2))=>g
    generalize dZ (aT st) lo (lo + n) ((lo + n - lo) / 2)=xs at g hd ⊢;refine aA (jh (dA ⟨rfl,?_⟩));refine aA (dG (ca (I:=λx c B=>∃ xs q,B=cX st xs/\c=(none,x,q)/\2<=x/\q + 1<=x/\Gd lo (aT st) xs/\Dn lt xs lo (lo + x)/\Eqs lt xs (lo + x - (q + 1)) (lo + x))
     (Q:=λc B=>∃ xs n q,B=cX st xs/\c=(none,n,q)/\1<=n/\n<=nrem/\q + 1<=n/\Gd lo (aT st) xs/\Dn lt xs lo (lo + n)/\Eqs lt xs (lo + n - (q + 1)) (lo + n)) ?_ ?_ ⟨xs,0,rfl,rfl,by lia,by lia,g,hd,λp q h1 h2 h3 h4=>by
      have:p=q:=by lia
      subst this;exact irr o (G g p (by lia))⟩) ?_)
    ·rintro x c B _ hx ⟨xs,q,rfl,rfl,x2,hq,g,hd,he⟩;have hxs:xs.size=(aT st).size:=g.size;dsimp only;refine aA (aZb o (i:=lo+x) (j:=lo+x-1) hk PA g (by lia) (by lia) ?_)
     dsimp only;cases e:lt (at0 xs (lo+x)) (at0 xs (lo+x-1)) with
     |true =>
      rw[if_pos rfl];have e2:=o.as _ _ (G g _ (by lia)) (G g _ (by lia)) e
      have one:∀ys,Gd lo (aT st) ys->Eqs lt ys (lo+(x+1)-(0+1)) (lo+(x+1)):=λys g' p q h1 h2 h3 h4=>by
       have:p=q:=by lia
       subst this;exact irr o (G g' p (by lia))
      by_cases Z:q>0
      ·rw[if_pos Z,dH];have hd2:(lo+x-(lo+x-(q+1)))/2=(lo+x-(lo+x-(q+1)))/2:=rfl;have g2:Gd lo (aT st) (dZ xs (lo+x-(q+1)) (lo+x) ((lo+x-(lo+x-(q+1)))/2)):=g.rev (by lia) (by lia) rfl
       have d2:Dn lt (dZ xs (lo+x-(q+1)) (lo+x) ((lo+x-(lo+x-(q+1)))/2)) lo (lo+x):=hd.eqs (by lia) he (by lia) rfl
       refine aA (c8 (aG ⟨_,0,rfl,rfl,by lia,by lia,g2,Dn.more o (i:=lo) (j:=lo+x) (λp J=>G g2 p (by lia)) d2 (by lia) ?_,one _ g2⟩))
       have rv:=bQk (xs:=xs) (i:=lo+x-(q+1)) (j:=lo+x) (by lia)
       rw[rv,rv,if_pos ⟨by lia,by lia⟩,if_neg (by lia)]
       exact o.tr (at0 xs (lo+x)) (at0 xs (lo+x-1)) _ (G g _ (by lia)) (G g _ (by lia)) (G g _ (by lia)) e2 (he _ _ (by lia) (by lia) (by lia) (by lia))
      ·rw[if_neg Z];exact aG ⟨xs,0,rfl,rfl,by lia,by lia,g,Dn.more o (i:=lo) (j:=lo+x) (λp J=>G g p (by lia)) hd (by lia) e2,one _ g⟩
     |false =>
      rw[if_neg (by simp)]
      refine aA (aZb o (i:=lo+x-1) (j:=lo+x) hk PA g (by lia) (by lia) ?_)
      dsimp only;cases e2:lt (at0 xs (lo+x-1)) (at0 xs (lo+x)) with
      |true=>rw[if_pos rfl];exact aG ⟨xs,x,q,rfl,rfl,by lia,by lia,hq,g,hd,he⟩
      |false =>
       rw[if_neg (by simp)]
       refine aG ⟨xs,q+1,rfl,rfl,by lia,by lia,g,Dn.more o (i:=lo) (j:=lo+x) (λp J=>G g p (by lia)) hd (by lia) e2,λp r h1 h2 h3 h4=>?_⟩
       have pp:∀p,p<=lo+x->P (at0 xs p):=λp J=>G g p (by lia)
       have low:∀p,lo+x-(q+1)<=p->p<lo+x->lt (at0 xs p) (at0 xs (lo+x))=false/\lt (at0 xs (lo+x)) (at0 xs p)=false:=λp a1 a2=>by
        have b1:=he p (lo+x-1) a1 a2 (by lia) (by lia)
        have b2:=he (lo+x-1) p (by lia) (by lia) a1 a2
        exact⟨o.tr _ _ _ (pp _ (by lia)) (pp _ (by lia)) (pp _ (by lia)) e2 b1,o.tr _ _ _ (pp _ (by lia)) (pp _ (by lia)) (pp _ (by lia)) b2 e⟩
       by_cases z1:p=lo+x
       ·by_cases z2:r=lo+x
        ·rw[z1,z2];exact irr o (pp _ (by lia))
        ·rw[z1];exact(low r (by lia) (by lia)).2
       ·by_cases z2:r=lo+x
        ·rw[z2];exact(low p (by lia) (by lia)).1
        ·exact he p r (by lia) (by lia) (by lia) (by lia)
    ·rintro c B ⟨xs,q,rfl,rfl,x2,hq,g,hd,he⟩;exact⟨xs,_,q,rfl,rfl,by lia,by lia,hq,g,by rwa [show max (n+1) nrem=nrem by lia] at hd ⊢,he⟩
    ·rintro c B ⟨xs,n,q,rfl,rfl,U,O,hq,g,hd,he⟩;have hxs:xs.size=(aT st).size:=g.size;dsimp only
     by_cases Z:q>0
     ·rw[if_pos Z,dH,dH];have g2:Gd lo (aT st) (dZ xs (lo+n-(q+1)) (lo+n) ((lo+n-(lo+n-(q+1)))/2)):=g.rev (by lia) (by lia) rfl
      have d2:Dn lt (dZ xs (lo+n-(q+1)) (lo+n) ((lo+n-(lo+n-(q+1)))/2)) lo (lo+n):=hd.eqs (by lia) he (by lia) rfl
      have s2:=g2.size;have g3:=g2.rev (i:=lo) (j:=lo+n) (Nat.le_refl _) (by lia) rfl
      have Y:=d2.rev (i:=lo) (j:=lo+n) (by lia) rfl
      refine aA (c8 (aA (c8 ?_)));change wpS _ _ _ _ _ _ (cX st (dZ (dZ xs (lo + n - (q + 1)) (lo + n) ((lo + n - (lo + n - (q + 1))) / 2)) lo (lo + n) ((lo + n - lo) / 2)));generalize dZ (dZ xs (lo + n - (q + 1)) (lo + n) ((lo + n - (lo + n - (q + 1))) / 2)) lo (lo + n) ((lo + n - lo) / 2)=zs at g3 Y ⊢;refine aA (dG (ca (I:=λx c B=>B=cX st zs/\c=(none,x)/\n<=x/\Up lt (zs) lo (lo + x))
       (Q:=λc B=>B=cX st zs/\∃n,c=(none,n)/\1<=n/\n<=nrem/\Up lt (zs) lo (lo+n)) ?_ ?_ ⟨rfl,rfl,Nat.le_refl _,Y⟩) ?_)
      ·rintro x c B _ hx ⟨rfl,rfl,h1,D⟩;dsimp only;refine aA (aZb o (i:=lo+x) (j:=lo+x-1) hk PA g3 (by lia) (by lia) ?_)
       dsimp only;cases e:lt (at0 (zs) (lo+x)) (at0 (zs) (lo+x-1)) with
       |true=>rw[if_pos rfl];exact aG ⟨rfl,x,rfl,by lia,by lia,D⟩
       |false=>rw[if_neg (by simp)];exact aG ⟨rfl,rfl,by lia,Up.more o (i:=lo) (j:=lo+x) (λp J=>G g3 p (by lia)) D (by lia) e⟩
      ·rintro c B ⟨rfl,rfl,h1,D⟩;exact⟨rfl,_,rfl,by lia,by lia,D⟩
      ·rintro c B ⟨rfl,n,rfl,U,O,D⟩;exact aG (h n (zs) U O g3 D)
     ·rw[if_neg Z,dH];have g3:=g.rev (i:=lo) (j:=lo+n) (Nat.le_refl _) (by lia) rfl
      have Y:=hd.rev (i:=lo) (j:=lo+n) (by lia) rfl
      refine aA (c8 ?_);change wpS _ _ _ _ _ _ (cX st (dZ xs lo (lo + n) ((lo + n - lo) / 2)));generalize dZ xs lo (lo + n) ((lo + n - lo) / 2)=zs at g3 Y ⊢;refine aA (dG (ca (I:=λx c B=>B=cX st zs/\c=(none,x)/\n<=x/\Up lt (zs) lo (lo + x))
       (Q:=λc B=>B=cX st zs/\∃n,c=(none,n)/\1<=n/\n<=nrem/\Up lt (zs) lo (lo+n)) ?_ ?_ ⟨rfl,rfl,Nat.le_refl _,Y⟩) ?_)
      ·rintro x c B _ hx ⟨rfl,rfl,h1,D⟩;dsimp only;refine aA (aZb o (i:=lo+x) (j:=lo+x-1) hk PA g3 (by lia) (by lia) ?_)
       dsimp only;cases e:lt (at0 (zs) (lo+x)) (at0 (zs) (lo+x-1)) with
       |true=>rw[if_pos rfl];exact aG ⟨rfl,x,rfl,by lia,by lia,D⟩
       |false=>rw[if_neg (by simp)];exact aG ⟨rfl,rfl,by lia,Up.more o (i:=lo) (j:=lo+x) (λp J=>G g3 p (by lia)) D (by lia) e⟩
      ·rintro c B ⟨rfl,rfl,h1,D⟩;exact⟨rfl,_,rfl,by lia,by lia,D⟩
      ·rintro c B ⟨rfl,n,rfl,U,O,D⟩;exact aG (h n (zs) U O g3 D)
  ·rw[if_neg cn];have e1:n=1:=by lia
   subst e1;have hd:Dn lt (aT st) lo (lo+(1+1)):=λp q h1 h2 h3=>by
    have ep:p=lo:=by lia
    have eq:q=lo+1:=by lia
    rw[ep,eq];exact hle
   have O:=c0';have g:=g0;refine aA (jh (dA ⟨rfl,?_⟩));refine aA (dG (ca (I:=λx c B=>∃ xs q,B=cX st xs/\c=(none,x,q)/\2<=x/\q + 1<=x/\Gd lo (aT st) xs/\Dn lt xs lo (lo + x)/\Eqs lt xs (lo + x - (q + 1)) (lo + x))
    (Q:=λc B=>∃ xs n q,B=cX st xs/\c=(none,n,q)/\1<=n/\n<=nrem/\q + 1<=n/\Gd lo (aT st) xs/\Dn lt xs lo (lo + n)/\Eqs lt xs (lo + n - (q + 1)) (lo + n)) ?_ ?_ ⟨aT st,0,rfl,rfl,by lia,by lia,g,hd,λp q h1 h2 h3 h4=>by
     have:p=q:=by lia
     subst this;exact irr o (G g p (by lia))⟩) ?_)
   ·rintro x c B _ hx ⟨xs,q,rfl,rfl,x2,hq,g,hd,he⟩;have hxs:xs.size=(aT st).size:=g.size;dsimp only;refine aA (aZb o (i:=lo+x) (j:=lo+x-1) hk PA g (by lia) (by lia) ?_)
    dsimp only;cases e:lt (at0 xs (lo+x)) (at0 xs (lo+x-1)) with
    |true =>
     rw[if_pos rfl];have e2:=o.as _ _ (G g _ (by lia)) (G g _ (by lia)) e
     have one:∀ys,Gd lo (aT st) ys->Eqs lt ys (lo+(x+1)-(0+1)) (lo+(x+1)):=λys g' p q h1 h2 h3 h4=>by
      have:p=q:=by lia
      subst this;exact irr o (G g' p (by lia))
     by_cases Z:q>0
     ·rw[if_pos Z,dH];have hd2:(lo+x-(lo+x-(q+1)))/2=(lo+x-(lo+x-(q+1)))/2:=rfl;have g2:Gd lo (aT st) (dZ xs (lo+x-(q+1)) (lo+x) ((lo+x-(lo+x-(q+1)))/2)):=g.rev (by lia) (by lia) rfl
      have d2:Dn lt (dZ xs (lo+x-(q+1)) (lo+x) ((lo+x-(lo+x-(q+1)))/2)) lo (lo+x):=hd.eqs (by lia) he (by lia) rfl
      refine aA (c8 (aG ⟨_,0,rfl,rfl,by lia,by lia,g2,Dn.more o (i:=lo) (j:=lo+x) (λp J=>G g2 p (by lia)) d2 (by lia) ?_,one _ g2⟩))
      have rv:=bQk (xs:=xs) (i:=lo+x-(q+1)) (j:=lo+x) (by lia)
      rw[rv,rv,if_pos ⟨by lia,by lia⟩,if_neg (by lia)]
      exact o.tr (at0 xs (lo+x)) (at0 xs (lo+x-1)) _ (G g _ (by lia)) (G g _ (by lia)) (G g _ (by lia)) e2 (he _ _ (by lia) (by lia) (by lia) (by lia))
     ·rw[if_neg Z];exact aG ⟨xs,0,rfl,rfl,by lia,by lia,g,Dn.more o (i:=lo) (j:=lo+x) (λp J=>G g p (by lia)) hd (by lia) e2,one _ g⟩
    |false =>
     rw[if_neg (by simp)]
     refine aA (aZb o (i:=lo+x-1) (j:=lo+x) hk PA g (by lia) (by lia) ?_)
     dsimp only;cases e2:lt (at0 xs (lo+x-1)) (at0 xs (lo+x)) with
     |true=>rw[if_pos rfl];exact aG ⟨xs,x,q,rfl,rfl,by lia,by lia,hq,g,hd,he⟩
     |false =>
      rw[if_neg (by simp)]
      refine aG ⟨xs,q+1,rfl,rfl,by lia,by lia,g,Dn.more o (i:=lo) (j:=lo+x) (λp J=>G g p (by lia)) hd (by lia) e2,λp r h1 h2 h3 h4=>?_⟩
      have pp:∀p,p<=lo+x->P (at0 xs p):=λp J=>G g p (by lia)
      have low:∀p,lo+x-(q+1)<=p->p<lo+x->lt (at0 xs p) (at0 xs (lo+x))=false/\lt (at0 xs (lo+x)) (at0 xs p)=false:=λp a1 a2=>by
       have b1:=he p (lo+x-1) a1 a2 (by lia) (by lia)
       have b2:=he (lo+x-1) p (by lia) (by lia) a1 a2
       exact⟨o.tr _ _ _ (pp _ (by lia)) (pp _ (by lia)) (pp _ (by lia)) e2 b1,o.tr _ _ _ (pp _ (by lia)) (pp _ (by lia)) (pp _ (by lia)) b2 e⟩
      by_cases z1:p=lo+x
      ·by_cases z2:r=lo+x
       ·rw[z1,z2];exact irr o (pp _ (by lia))
       ·rw[z1];exact(low r (by lia) (by lia)).2
      ·by_cases z2:r=lo+x
       ·rw[z2];exact(low p (by lia) (by lia)).1
       ·exact he p r (by lia) (by lia) (by lia) (by lia)
   ·rintro c B ⟨xs,q,rfl,rfl,x2,hq,g,hd,he⟩;exact⟨xs,_,q,rfl,rfl,by lia,by lia,hq,g,by rwa [show max (1+1) nrem=nrem by lia] at hd ⊢,he⟩
   ·rintro c B ⟨xs,n,q,rfl,rfl,U,O,hq,g,hd,he⟩;have hxs:xs.size=(aT st).size:=g.size;dsimp only
    by_cases Z:q>0
    ·rw[if_pos Z,dH,dH];have g2:Gd lo (aT st) (dZ xs (lo+n-(q+1)) (lo+n) ((lo+n-(lo+n-(q+1)))/2)):=g.rev (by lia) (by lia) rfl
     have d2:Dn lt (dZ xs (lo+n-(q+1)) (lo+n) ((lo+n-(lo+n-(q+1)))/2)) lo (lo+n):=hd.eqs (by lia) he (by lia) rfl
     have s2:=g2.size;have g3:=g2.rev (i:=lo) (j:=lo+n) (Nat.le_refl _) (by lia) rfl
     have Y:=d2.rev (i:=lo) (j:=lo+n) (by lia) rfl
     refine aA (c8 (aA (c8 ?_)));change wpS _ _ _ _ _ _ (cX st (dZ (dZ xs (lo + n - (q + 1)) (lo + n) ((lo + n - (lo + n - (q + 1))) / 2)) lo (lo + n) ((lo + n - lo) / 2)));generalize dZ (dZ xs (lo + n - (q + 1)) (lo + n) ((lo + n - (lo + n - (q + 1))) / 2)) lo (lo + n) ((lo + n - lo) / 2)=zs at g3 Y ⊢;refine aA (dG (ca (I:=λx c B=>B=cX st zs/\c=(none,x)/\n<=x/\Up lt (zs) lo (lo + x))
      (Q:=λc B=>B=cX st zs/\∃n,c=(none,n)/\1<=n/\n<=nrem/\Up lt (zs) lo (lo+n)) ?_ ?_ ⟨rfl,rfl,Nat.le_refl _,Y⟩) ?_)
     ·rintro x c B _ hx ⟨rfl,rfl,h1,D⟩;dsimp only;refine aA (aZb o (i:=lo+x) (j:=lo+x-1) hk PA g3 (by lia) (by lia) ?_)
      dsimp only;cases e:lt (at0 (zs) (lo+x)) (at0 (zs) (lo+x-1)) with
      |true=>rw[if_pos rfl];exact aG ⟨rfl,x,rfl,by lia,by lia,D⟩
      |false=>rw[if_neg (by simp)];exact aG ⟨rfl,rfl,by lia,Up.more o (i:=lo) (j:=lo+x) (λp J=>G g3 p (by lia)) D (by lia) e⟩
     ·rintro c B ⟨rfl,rfl,h1,D⟩;exact⟨rfl,_,rfl,by lia,by lia,D⟩
     ·rintro c B ⟨rfl,n,rfl,U,O,D⟩;exact aG (h n (zs) U O g3 D)
    ·rw[if_neg Z,dH];have g3:=g.rev (i:=lo) (j:=lo+n) (Nat.le_refl _) (by lia) rfl
     have Y:=hd.rev (i:=lo) (j:=lo+n) (by lia) rfl
     refine aA (c8 ?_);generalize dZ xs lo (lo + n) ((lo + n - lo) / 2)=zs at g3 Y ⊢;refine aA (dG (ca (I:=λx c B=>B=cX st zs/\c=(none,x)/\n<=x/\Up lt (zs) lo (lo + x))
      (Q:=λc B=>B=cX st zs/\∃n,c=(none,n)/\1<=n/\n<=nrem/\Up lt (zs) lo (lo+n)) ?_ ?_ ⟨rfl,rfl,Nat.le_refl _,Y⟩) ?_)
     ·rintro x c B _ hx ⟨rfl,rfl,h1,D⟩;refine aA (aZb o hk PA g3 (by lia) (by lia) ?_)
      dsimp only;cases e:lt (at0 (zs) (lo+x)) (at0 (zs) (lo+x-1)) with
      |true=>rw[if_pos rfl];exact aG ⟨rfl,x,rfl,by lia,by lia,D⟩
      |false=>rw[if_neg (by simp)];exact aG ⟨rfl,rfl,by lia,Up.more o (λp J=>G g3 p (by lia)) D (by lia) e⟩
     ·rintro c B ⟨rfl,rfl,h1,D⟩;exact⟨rfl,_,rfl,by lia,by lia,D⟩
     ·rintro c B ⟨rfl,n,rfl,U,O,D⟩;exact aG (h n (zs) U O g3 D)
end
theorem bub_at(hs:src<xs.size)(hd:d<=src)(k:Nat) :
  at0 (bubble xs src d) k=if k=src-d then at0 xs src else if src-d<k/\k<=src then at0 xs (k-1) else at0 xs k:=by
 have e:=getElem?_bubble hs d hd k
 by_cases h1:k=src-d
 ·rw[if_pos h1] at e ⊢;exact dQq e
 ·rw[if_neg h1] at e ⊢
  by_cases h2:src-d<k/\k<=src
  ·rw[if_pos h2] at e ⊢;exact dQq e
  ·rw[if_neg h2] at e ⊢;exact dQq e
section
variable{prog:ax}{w:aK}{A:aU}{E:ab->ag->Prop}{s:ag}{κ:fE}{P:aO->Prop}{lt:aO->aO->Bool}{st:c7}{lo:Nat}
theorem fJ2(o:Orc prog w A s κ P lt){n ok:Nat}{Q:Bool->c7->Prop}(hk:kindOf st=κ)(PA:∀x∈(aT st).toList,P x)(hs:lo+n<=(aT st).size)(hok:ok<=n)(hu:Up lt (aT st) lo (lo+ok))
  (h:∀xs,Gd lo (aT st) xs->Up lt xs lo (lo+n)->Q true (cX st xs)):wpS (aF prog w) A E s (binarySort' lo n ok) Q st:=by
 have pP:∀ {xs},Gd lo (aT st) xs->∀ p,p < (aT st).size->P (at0 xs p):=λg p hp=>(gd_P g PA hp).2;have g0:Gd lo (aT st) (aT st):=⟨ki _,λ_ _=>rfl⟩;rw[binarySort'_eq];refine aA (dG (ca (I:=λk c D=>∃ xs,D=cX st xs/\c=(none,())/\Gd lo (aT st) xs/\Up lt xs lo (lo + min k n))
  (Q:=λc D=>∃xs,D=cX st xs/\c=(none,())/\Gd lo (aT st) xs/\Up lt xs lo (lo+n)) ?step ?fin ?init) ?post)
 case post =>
  rintro c D ⟨xs,rfl,rfl,g,hu⟩;exact aG (h xs g hu)
 case init =>
  refine⟨aT st,rfl,rfl,g0,λp q h1 h2 h3=>?_⟩
  by_cases z:ok=0
  ·lia
  ·exact hu p q h1 h2 (by lia)
 case fin =>
  rintro c D ⟨xs,rfl,rfl,g,hu⟩;refine⟨xs,rfl,rfl,g,?_⟩;rwa [show min (max (max ok 1) n) n=n by lia] at hu
 case step =>
  rintro k c D hak hkn ⟨xs,rfl,rfl,g,hu⟩;rw[show min k n=k by lia] at hu
  have hxs:=g.size;have pp:∀p,p<lo+n->P (at0 xs p):=λp hp=>pP g p (by lia)
  dsimp only;refine aA (dG (ca (I:=λx c B=>B=cX st xs/\∃ l r,c=(none,l,r)/\l<=r/\r<=k/\r - l<=k - x /\
    (∀i,i<l->lt (at0 xs (lo+k)) (at0 xs (lo+i))=false)/\(∀i,r<=i->i<k->lt (at0 xs (lo+i)) (at0 xs (lo+k))=false))
   (Q:=λc B=>B=cX st xs/\∃ l r,c=(none,l,r)/\l<=k /\
    (∀i,i<l->lt (at0 xs (lo+k)) (at0 xs (lo+i))=false)/\(∀i,l<=i->i<k->lt (at0 xs (lo+i)) (at0 xs (lo+k))=false)) ?istep ?ifin ?iinit) ?ipost)
  case iinit=>exact⟨rfl,0,k,rfl,by lia,by lia,by lia,λi hi=>by lia,λi h1 h2=>by lia⟩
  case ifin =>
   rintro c B ⟨rfl,l,r,rfl,hlr,O,hm,G,J⟩
   have:l=r:=by lia
   subst this;exact⟨rfl,l,l,rfl,O,G,J⟩
  case istep =>
   rintro x c B _ hxk ⟨rfl,l,r,rfl,hlr,O,hm,G,J⟩;by_cases hge:l>=r
   ·rw[if_pos hge]
    have:l=r:=by lia
    subst this;exact aG ⟨rfl,l,l,rfl,O,G,J⟩
   ·rw[if_neg hge];refine aA (aZb o hk PA g (by lia) (by lia) ?_)
    dsimp only;cases e:lt (at0 xs (lo+k)) (at0 xs (lo+(l+r)/2)) with
    |true =>
     rw[if_pos rfl];refine aG ⟨rfl,l,(l+r)/2,rfl,by lia,by lia,by lia,G,λi h1 h2=>?_⟩
     have e2:=o.as _ _ (pp _ (by lia)) (pp _ (by lia)) e
     rcases Nat.eq_or_lt_of_le h1 with z|z
     ·rw[<- z];exact e2
     ·exact o.tr _ _ _ (pp _ (by lia)) (pp (lo+(l+r)/2) (by lia)) (pp _ (by lia)) e2 (hu _ _ (by lia) (by lia) (by lia))
    |false =>
     rw[if_neg (by simp)]
     refine aG ⟨rfl,(l+r)/2+1,r,rfl,by lia,by lia,by lia,λi h1=>?_,J⟩
     rcases Nat.eq_or_lt_of_le (show i<=(l+r)/2 by lia) with z|z
     ·rw[z];exact e
     ·exact o.tr _ _ _ (pp _ (by lia)) (pp (lo+(l+r)/2) (by lia)) (pp _ (by lia)) (hu _ _ (by lia) (by lia) (by lia)) e
  case ipost =>
   rintro c B ⟨rfl,l,r,rfl,hlk,G,J⟩;rw[moveDown'_eq];have U:lo+k<xs.size:=by lia
   have ed:lo+k-(lo+l)=k-l:=by lia
   refine aA (c8 (aG ⟨bubble xs (lo+k) (lo+k-(lo+l)),rfl,rfl,⟨(bubble_perm _ _ _).trans g.1,λi hi=>?_⟩,?_⟩))
   ·rw[getElem?_bubble U _ (by lia),if_neg (by lia),if_neg (by lia)]
    exact g.2 i hi
   ·rw[show min (k+1) n=k+1 by lia]
    intro p q h1 h2 h3;rw[bub_at U (by lia),bub_at U (by lia),show lo+k-(lo+k-(lo+l))=lo+l by lia]
    have Y:∀i,lo<=i->i<lo+l->lt (at0 xs (lo+k)) (at0 xs i)=false:=λi a b=>by
     have:=G (i-lo) (by lia)
     rwa [show lo+(i-lo)=i by lia] at this
    have Z:∀i,lo+l<=i->i<lo+k->lt (at0 xs i) (at0 xs (lo+k))=false:=λi a b=>by
     have:=J (i-lo) (by lia) (by lia)
     rwa [show lo+(i-lo)=i by lia] at this
    repeat' split
    all_goals first
     |(exfalso;lia)
     |exact Y _ (by lia) (by lia)
     |exact Z _ (by lia) (by lia)
     |exact hu _ _ (by lia) (by lia) (by lia)
end
def offs:Nat->List (List aO)->List (Nat×Nat)
 |_,[]=>[]
 |k,s::ss=>(k,s.length)::offs (k+s.length) ss
theorem bX9:∀k ss,(offs k ss).length=ss.length
 |_,[]=>rfl
 |k,s::ss=>by simp[offs,bX9]
theorem bQ4:∀k (s1 s2:List (List aO)),offs k (s1++s2)=offs k s1++offs (k+s1.flatten.length) s2
 |k,[],s2=>by simp[offs]
 |k,s::s1,s2=>by simp[offs,bQ4,Nat.add_assoc]
def sl(x:Nat×Nat×Nat):Nat×Nat:=(x.1,x.2.1)
structure Pn(κ:fE)(P:aO->Prop)(lt:aO->aO->Bool)(a0:List aO)(st:c7)(segs:List (List aO))(rest:List aO):Prop where
 kind:kindOf st=κ
 fl:gh st=none
 arr:(aT st).toList=segs.flatten++rest
 perm:(aT st).toList.Perm a0
 sd:∀sg∈segs,Sd lt sg/\sg≠[]
 pd:(bY st).toList.map sl=offs 0 segs
section
variable{prog:ax}{w:aK}{A:aU}{E:ab->ag->Prop}{s:ag}{κ:fE}{P:aO->Prop}{lt:aO->aO->Bool}{st:c7}{a0 rest:List aO}{segs:List (List aO)}
theorem Pn.psize(h:Pn κ P lt a0 st segs rest):(bY st).size=segs.length:=by
 have:=congrArg dU h.pd
 rwa [ah,bX9,aW] at this
theorem Pn.size(h:Pn κ P lt a0 st segs rest):(aT st).size=a0.length:=by rw[<- aW];exact h.perm.length_eq
theorem Pn.room(h:Pn κ P lt a0 st segs rest):segs.flatten.length+rest.length=a0.length:=by rw[<- au,<- h.arr];exact h.perm.length_eq
theorem eQy(o:Orc prog w A s κ P lt)(PA:∀x∈a0,P x)(h:Pn κ P lt a0 st segs rest){i:Nat}(hi:i+1<segs.length){Q:Bool->c7->Prop}
  (hq:∀st' segs',Pn κ P lt a0 st' segs' rest->segs'.length+1=segs.length->segs'.flatten.length=segs.flatten.length->Q true st'):wpS (aF prog w) A E s (mergeAt' i) Q st:=by
 obtain⟨S1,j,G,O,rfl,rfl⟩:∃S1 j G O,segs=S1++j::G::O/\S1.length=i:=by
  refine⟨segs.take i,segs[i],segs[i+1],segs.drop (i+2),?_,by rw[aP];lia⟩
  rw[<- cj hi,<- cj (by lia),bA]
 have J:=h.pd;rw[bQ4,Nat.zero_add] at J;obtain⟨p1,p2',e1,e2,e3⟩:=List.map_eq_append_iff.mp J;simp only[offs] at e3;obtain⟨x,p2'',rfl,ex,e4⟩:=List.map_eq_cons_iff.mp e3;obtain⟨y,p2,rfl,ey,e5⟩:=List.map_eq_cons_iff.mp e4;have D:p1.length=S1.length:=by rw[<- ah,e2,bX9]
 have g1:(bY st)[S1.length]?=some (S1.flatten.length,j.length,x.2.2):=by
  rw[<- aS,e1,<- D,cA (Nat.le_refl _),Nat.sub_self,jU];obtain⟨x1,x2,x3⟩:=x;cases ex;rfl
 have g2:(bY st)[S1.length+1]?=some (S1.flatten.length+j.length,G.length,y.2.2):=by
  rw[<- aS,e1,<- D,cA (by lia),Nat.add_sub_cancel_left,fD,jU]
  obtain⟨y1,y2,y3⟩:=y;cases ey;rfl
 have Y:=h.sd j (by simp)
 have sB:=h.sd G (by simp)
 have hl:(aT st).toList=S1.flatten++(j++(G++(O.flatten++rest))):=by rw[h.arr];simp
 have pm:∀x∈j++G,P x:=λx B=>PA x (h.perm.mem_iff.mp (by rw[hl];simp at B ⊢;grind))
 refine fJ0 o h.kind h.fl g1 g2 rfl hl rfl rfl rfl (dQ.mpr Y.2) (dQ.mpr sB.2) (λx B=>pm x (cZ _ B)) (λx B=>pm x (bz _ B)) Y.1 sB.1 λC g xs B hC hp=>?_;have U:=hp.length_eq;rw[au] at U;refine hq _ (S1++C::O) ⟨rfl,rfl,?_,?_,λsg Z=>?_,?_⟩ (by simp only[au,az];lia) (by simp;lia)
 ·rw[B];simp
 ·refine List.Perm.trans ?_ h.perm;rw[B,hl];refine eW _ ?_
  have:=eM (O.flatten++rest) hp
  rwa [be j] at this
 ·rcases aY.mp Z with z|z
  ·exact h.sd sg (by simp[z])
  ·rcases av.mp z with rfl|z
   ·exact⟨hC,λe=>by
     have:=dQ.mpr Y.2
     rw[e] at U;simp at U;lia⟩
   ·exact h.sd sg (by simp[z])
 ·rw[Array.toList_eraseIdxIfInBounds,ji,e1,<- D,List.set_append_right _ _ (Nat.le_refl _),Nat.sub_self,List.set_cons_zero,List.eraseIdx_append_of_length_le (by lia),Nat.add_sub_cancel_left,List.eraseIdx_cons_succ,List.eraseIdx_cons_zero,bK,aL,e2,e5,bQ4]
  simp[offs,sl,U,Nat.add_assoc]
theorem Pn.next(h:Pn κ P lt a0 st segs rest){xs:Array aO}{n:Nat}(hn:1<=n)(hs:segs.flatten.length+n<=a0.length)(g:Gd segs.flatten.length (aT st) xs)(hu:Up lt xs segs.flatten.length (segs.flatten.length+n)) :
  ∃sg rest',sg.length=n/\Sd lt sg/\sg≠[]/\Pn κ P lt a0 (cX st xs) segs (sg++rest'):=by
 have O:xs.toList.length=a0.length:=by rw[aW,g.size,h.size]
 have D:xs.toList.take segs.flatten.length=segs.flatten:=by
  have:(aT st).toList.take segs.flatten.length=segs.flatten:=by rw[h.arr,eF (Nat.le_refl _),cx]
  rw[<- this];refine hW λi=>?_;rw[List.getElem?_take,List.getElem?_take,this]
  split
  ·next hi=>rw[aS,aS];exact g.2 i hi
  ·rfl
 refine⟨(xs.toList.drop segs.flatten.length).take n,(xs.toList.drop segs.flatten.length).drop n,by rw[aP,bR];lia,?_,λe=>?_,h.kind,h.fl,?_,?_,h.sd,h.pd⟩
 ·refine bT.mpr λi j hi G J=>?_;rw[aP,bR] at hi G
  have:=hu (segs.flatten.length+i) (segs.flatten.length+j) (by lia) (by lia) (by lia)
  have B:∀k,segs.flatten.length+k<xs.toList.length->∀z,((xs.toList.drop segs.flatten.length).take n)[k]'z=at0 xs (segs.flatten.length+k):=λk h1 z=>by
   rw[fW,hZ];unfold at0;rw[<- aS,af h1]
   rfl
  rw[B i (by lia),B j (by lia)]
  exact this
 ·have:=congrArg dU e
  rw[aP,bR,cg] at this;lia
 ·rw[bA]
  conv=>lhs;rw[<- bA segs.flatten.length xs.toList,D]
 ·exact(c9.mp g.1).trans h.perm
theorem Pn.push(h:Pn κ P lt a0 st segs (sg++rest'))(hs:Sd lt sg)(hne:sg≠[]){lo n:Nat}(hlo:segs.flatten.length=lo)(hn:sg.length=n):Pn κ P lt a0 (gj st ((bY st).push (lo,n,0))) (segs++[sg]) rest':=by
 subst hlo hn;refine⟨h.kind,h.fl,?_,h.perm,λx j=>?_,?_⟩
 ·rw[h.arr];simp
 ·rcases aY.mp j with z|z
  ·exact h.sd x z
  ·rw[aJ.mp z];exact⟨hs,hne⟩
 ·rw[cG,bK,h.pd,bQ4];simp[offs,sl]
theorem Pn.repow(h:Pn κ P lt a0 st segs rest)(i pw:Nat):Pn κ P lt a0 (gj st ((bY st).modify i λx=>(x.1,x.2.1,pw))) segs rest:=by
 refine⟨h.kind,h.fl,h.arr,h.perm,h.sd,?_⟩;rw[<- h.pd,Array.toList_modify];refine hW λj=>?_;rw[aQ,aQ,List.getElem?_modify]
 by_cases c:i=j
 ·simp only[c,if_true];cases (bY st).toList[j]? <;> rfl
 ·simp only[c,if_false];cases (bY st).toList[j]? <;> rfl
theorem cZm:∀(ss:List (List aO)),(∀sg∈ss,sg≠[])->ss.length<=ss.flatten.length
 |[],_=>Nat.le_refl _
 |s::ss,h=>by
  have:=cZm ss λx j=>h x (.tail _ j)
  have:=dQ.mpr (h s (.head _))
  rw[jx,au,az];lia
end
section
variable{prog:ax}{w:aK}{A:aU}{E:ab->ag->Prop}{s:ag}{κ:fE}{P:aO->Prop}{lt:aO->aO->Bool}{st:c7}{a0 rest:List aO}{segs:List (List aO)}
theorem eJ1(o:Orc prog w A s κ P lt)(PA:∀x∈(aT st).toList,P x)(hk:kindOf st=κ)(hf:gh st=none)(hp:bY st=#[]){Q:Unit->c7->Prop}
  (h:∀st',(aT st').toList.Perm (aT st).toList->gh st'=none->Sd lt (aT st').toList->Q () st'):wpS (aF prog w) A E s sortRuns' Q st:=by
 have h0:Pn κ P lt (aT st).toList st [] (aT st).toList:=⟨hk,hf,rfl,dJ _,λ_ O=>absurd O ix,by rw[hp];rfl⟩
 have pA:∀ {st' segs rest},Pn κ P lt (aT st).toList st' segs rest->∀ x∈(aT st').toList,P x:=λI x O=>PA x (I.perm.mem_iff.mp O);rw[sortRuns'_eq];refine aA (iT ?_);have lz:(aT st).toList.length=(aT st).size:=aW;refine aA (dG (ca
  (I:=λx c st'=>∃segs rest,c=(none,segs.flatten.length)/\Pn κ P lt (aT st).toList st' segs rest/\x<=segs.flatten.length)
  (Q:=λc st'=>∃segs,c=(none,segs.flatten.length)/\Pn κ P lt (aT st).toList st' segs []) ?step ?fin ⟨[],_,rfl,h0,Nat.le_refl _⟩) ?post)
 case fin =>
  rintro c st' ⟨segs,rest,rfl,I,O⟩;have r:=I.room;obtain rfl:rest=[]:=b7 (by lia)
  exact⟨segs,rfl,I⟩
 case post =>
  rintro c st' ⟨segs,rfl,I⟩;have r:=I.room;rw[cg] at r;have fl:=cZm segs λsg hsg=>(I.sd sg hsg).2;refine aA (dG (ca (I:=λx c st'=>∃ segs,c=(none,())/\Pn κ P lt (aT st).toList st' segs []/\(segs.length<=1\/segs.length + x<=(aT st).size))
   (Q:=λc st'=>∃segs,c=(none,())/\Pn κ P lt (aT st).toList st' segs []/\segs.length<=1) ?_ ?_ ⟨segs,rfl,I,by lia⟩) ?_)
  ·rintro x c st' _ O ⟨segs,rfl,I,hc⟩;refine aA (iT ?_);have hps:=I.psize
   by_cases c1:(bY st').size<=1
   ·rw[if_pos c1];exact aG ⟨segs,rfl,I,by lia⟩
   ·rw[if_neg c1];have hi:∀b:Bool,(if b=true then (bY st').size-2-1 else (bY st').size-2)+1<segs.length:=λb=>by split <;> lia
    refine aA (eQy o PA I (hi _) λG j I2 l2 _=>?_);exact aG ⟨j,rfl,I2,by lia⟩
  ·rintro c st' ⟨segs,rfl,I,hc⟩;exact⟨segs,rfl,I,by lia⟩
  ·rintro c st' ⟨segs,rfl,I,hc⟩;refine aG (h st' I.perm I.fl ?_);rw[I.arr,ce]
   match segs,hc,I with
   |[],_,_=>exact ff
   |[sg],_,I=>rw[eN];exact(I.sd sg (.head _)).1
 case step =>
  rintro x c st' _ O ⟨segs,rest,rfl,I,hxs⟩;have r:=I.room;have sz:=I.size;by_cases c1:segs.flatten.length>=(aT st).size
  ·rw[if_pos c1];obtain rfl:rest=[]:=b7 (by lia)
   exact aG ⟨segs,rfl,I⟩
  rw[if_neg c1];refine aA (fJ1 o I.kind (pA I) (by lia) (by lia) λn xs n1 n2 g hu=>?_)
  dsimp only
  by_cases c2:n<minRun' (aT st).size (aT st).size 0
  rw[if_pos c2];refine aA (jh (dA ⟨rfl,?_⟩));refine aA (fJ2 o I.kind (λx O=>pA I x ((c9.mp g.1).mem_iff.mp O)) (by have:=g.size;lia) (by lia) hu λys g2 hu2=>?_)
  rw[if_neg (by simp)]
  obtain⟨sg,B,ls,hs,J,I2⟩:=I.next (by lia) (by lia) ⟨g2.1.trans g.1,λi hi=>(g2.2 i hi).trans (g.2 i hi)⟩ hu2
  rotate_left
  rw[if_neg c2];obtain⟨sg,B,ls,hs,J,I2⟩:=I.next n1 (by lia) g hu
  all_goals
   have lp:=dQ.mpr J;refine aA (iT ?_)
   split
   next s1 n1' _ hb =>
    refine aA (dG (ca (I:=λ_ c D=>∃ j,c=(none,())/\Pn κ P lt (aT st).toList D j (sg++B)/\j.flatten.length=segs.flatten.length)
     ?_ (λ_ _ hh=>hh) ⟨segs,rfl,I2,rfl⟩) ?_)
    ·rintro y c G _ hy ⟨j,rfl,Z,Y⟩;refine aA (iT ?_);have hps:=Z.psize
     split
     next older he =>
      have hgt:(bY G).size>1:=by
       by_cases z:(bY G).size>1
       ·exact z
       ·rw[if_neg z] at he;cases he
      split
      ·exact aG ⟨j,rfl,Z,Y⟩
      ·refine aA (eQy o PA Z (by lia) λst4 U I4 _ l4=>?_)
       exact aG ⟨U,rfl,I4,l4.trans Y⟩
     next=>exact aG ⟨j,rfl,Z,Y⟩
    ·rintro c G ⟨j,rfl,Z,Y⟩;refine aA (c8 (aA (c8 (aG ⟨j++[sg],B,?_,(Z.repow _ _).push hs J Y ls,?_⟩))))
     ·rw[fA,au,eN,ls,Y]
     ·rw[fA,au,eN,Y];lia
   next =>
    refine aA (c8 (aG ⟨segs++[sg],B,?_,I2.push hs J rfl ls,?_⟩))
    ·rw[fA,au,eN,ls]
    ·rw[fA,au,eN];lia
end
theorem aX5{α:Type}:∀{l:List α}{x y:α},(x,y)∈l.zip l->x=y/\x∈l
 |a::l,x,y,h=>by
  rw[cI] at h;rcases av.mp h with e|h
  ·cases e;exact⟨rfl,.head _⟩
  ·exact⟨(aX5 h).1,.tail _ (aX5 h).2⟩
section
variable{prog:ax}{w:aK}{A:aU}{E:ab->ag->Prop}{s:ag}
theorem dJf{α:Type}{R:α->α->Prop}:∀l:List α,l.length<2->l.Pairwise R
 |[],_=>.nil
 |[x],_=>bj _ _
theorem sort_any{a:Addr}{vs:List ab}{n:Nat}{P:iZ->ag->Prop}(lt:ab->ab->Bool)(hz:vs.length<=sizeLine)(ho:s.heap.get? a=some (b8 "list" vs.toArray n))
  (H:∀h2:bb,(∀b o,b≠a->s.heap.get? b=some o->h2.get? b=some o)->2<=vs.length->∀(Q:fE->ag->Prop),(∀κ,Orc prog w A {s with heap:=h2} κ (λx=>x.1∈vs) (λx y=>lt x.1 y.1)->Q κ {s with heap:=h2})->aE (aF prog w) A (keyKind' vs.toArray) Q E {s with heap:=h2})
  (h:∀xs:Array aO,xs.Perm (iI vs)->xs.toList.Pairwise (λx y=>lt y.1 x.1=false)->P (.done (.ret .none)) {s with heap:=iB s.heap a vs (xs.map (·.2))}) :
  aE (aF prog w) A (cr.«list.sort» ⟨[.ref a],[]⟩) P E s:=by
 rw[list_sort_plain];have ha:=aC ho;refine aa (listItems_at ho rfl ?_);refine aa (listUpdate_at ho rfl ?_ (by rw[ay];exact hz) (Nat.zero_le _))
 obtain⟨G,B⟩:∃G,(s.heap.update a (cf λ_=>#[])).get? a=some (b8 "list" #[] G):=⟨_,e8 ho (λ_=>#[])⟩;refine aa (seqEpoch_at B rfl ?_);refine aa (wpAny_newTuple ?_ (hz))
 refine aa (jH ?_ (Nat.zero_le _));refine bS ?_;have O:=cm s.heap a (cf λ_=>(#[]));have z:(((s.heap.update a (cf λ_=>#[])).push (b8 "tuple" vs.toArray 0)).push (b8 "list" #[] 0)).get? a=some (b8 "list" #[] G):=ae _ (ae _ B);have kp:∀b o,b≠a->s.heap.get? b=some o->(((s.heap.update a (cf λ_=>#[])).push (b8 "tuple" vs.toArray 0)).push (b8 "list" #[] 0)).get? b=some o:=λb o Y e=>ae _ (ae _ ((O.2 b Y).trans e));dsimp only;have D:=pairsOf_size vs
 by_cases h2:vs.toArray.size<2
 ·rw[if_pos h2,if_pos h2];refine aa (ad ?_);rw[StateT.run_pure];refine aa (ad ?_);refine aa (seqEpoch_at z rfl ?_);refine aa (listUpdate_at z rfl ?_ (Nat.zero_le _) (by rw[kG];show(iI vs).size<=_;rw[D];exact Nat.le_succ_of_le hz))
  simp only[bne_self_eq_false,aM,if_false];refine ad (h (iI vs) (ki _) ?_)
  have:(iI vs).toList.length<2:=by rw[aW,D];simpa using h2
  exact dJf _ this
 ·rw[if_neg h2,if_neg h2];refine aa (H _ kp (by simpa using h2) _ fun κ o=>?_)
  refine aa (dw (eJ1 o (Q:=λ_ j=>(aT j).toList.Perm (iI vs).toList/\gh j=none/\Sd (λx y:aO=>lt x.1 y.1) (aT j).toList)
   (λx U=>(aX5 (by rw[<- jj];exact U)).2) rfl rfl rfl λj a1 a2 Z=>⟨a1,a2,Z⟩) ?_ λ_ _ e=>e)
  rintro⟨⟨⟩,j⟩ s' ⟨rfl,J,hf,hs⟩;refine aa (seqEpoch_at z rfl ?_);refine aa (listUpdate_at z rfl ?_ (Nat.zero_le _) (by rw[kG,<- aW,J.length_eq,aW,D];exact Nat.le_succ_of_le hz))
  rw[hf];simp only[bne_self_eq_false,aM,if_false];exact ad (h _ (c9.mpr J) hs)
theorem treeK{κ:KeyKind}(hO:κ.OneLt){a:Addr}{vs:List ab}{n:Nat}{P:iZ->ag->Prop}(ho:s.heap.get? a=some (b8 "list" vs.toArray n))
  (h0:KeysOf κ (iI vs)) (hkk:∀v₁ v₂ rest,vs=v₁::v₂::rest->keyKind' (v₁::v₂::rest).toArray=pure oneType') (hz:vs.length<=sizeLine)
  (h:∀st':c7,(aT st').Perm (iI vs)->SortedToK κ (aT st') (iI vs).size->P (.done (.ret .none)) {s with heap:=iB s.heap a vs ((aT st').map (·.2))}) :
  aE (aF prog w) A (cr.«list.sort» ⟨[.ref a],[]⟩) P E s:=by
 have key:∀ v∈vs,∃ x,κ.keyOf v=some x:=λv hv=>h0 (v,v) (by
  rw[jj];obtain⟨i,hi,e⟩:=bd hv;exact List.mem_iff_getElem.mpr ⟨i,by simpa using hi,by simp[e]⟩)
 refine sort_any (λu v=>κ.blt ((κ.keyOf u).getD κ.dflt) ((κ.keyOf v).getD κ.dflt)) hz ho (λh2 kp U Q hq=>?_) λxs D hs=>h (jg oneType' xs #[] 7 none) D λi j O hj=>?_
 ·obtain⟨v₁,v₂,rest,rfl⟩:∃v₁ v₂ rest,vs=v₁::v₂::rest:=by
   match vs,U with
   |v₁::v₂::rest,_=>exact⟨v₁,v₂,rest,rfl⟩
  rw[hkk _ _ _ rfl];refine ad (hq _ ⟨λx y Q hx hy q=>?_,λx y _ _ e=>KeyOrd.klt_asymm e,λx y z _ _ _ e1 e2=>KeyOrd.kle_trans e1 e2⟩);obtain⟨p,D⟩:=key _ hx;obtain⟨Z,B⟩:=key _ hy;rw[keyLt'_oneType];refine hO _ _ _ _ _ _ _ p Z D B ?_;rw[D,B] at q;exact q
 ·rcases Nat.eq_or_lt_of_le O with rfl|G
  ·exact KeyOrd.kle_refl _
  ·have sz:=D.size_eq;have Y:∀k (J:k<xs.size),KK κ xs k=(κ.keyOf (xs.toList[k]'(by simpa using J)).1).getD κ.dflt:=λk J=>by
    unfold KK;rw[<- aS,af (by simpa using J)]
   rw[Y i (by lia),Y j (by lia)]
   exact bT.mp hs i j (by simp;lia) (by simp;lia) G
def iv:ab->Int
 |.int n _=>n
 |_=>0
theorem treeI{a:Addr}{vs:List ab}{ns:List Int}{n:Nat}{P:iZ->ag->Prop}(ho:s.heap.get? a=some (b8 "list" vs.toArray n))(hI:iQ vs ns)(hz:vs.length<=sizeLine)
  (h:∀(out:Array ab) (ns':List Int),iQ out.toList ns'->ns'.Perm ns->ns'.Pairwise (·<=·)->P (.done (.ret .none)) {s with heap:=iB s.heap a vs out}) :
  aE (aF prog w) A (cr.«list.sort» ⟨[.ref a],[]⟩) P E s:=by
 have key:∀ v∈vs,∃ x t,v=.int x t:=λv hv=>hI.intKeys (v,v) (by
  rw[jj];obtain⟨i,hi,e⟩:=bd hv;exact List.mem_iff_getElem.mpr ⟨i,by simpa using hi,by simp[e]⟩)
 refine sort_any (λu v=>decide (iv u<iv v)) hz ho (λh2 kp Z Q hq=>?_) λxs G hs=>?_
 ·obtain⟨D,B,rest,rfl⟩:∃D B rest,vs=D::B::rest:=by
   match vs,Z with
   |D::B::rest,_=>exact⟨D,B,rest,rfl⟩
  rw[keyKind_ints hI];refine ad (hq _ ⟨λx y Q hx hy q=>?_,λx y _ _ e=>by simp at e ⊢;lia,λx y z _ _ _ e1 e2=>by simp at e1 e2 ⊢;lia⟩)
  obtain⟨p,t,G⟩:=key _ hx;obtain⟨p',t',O⟩:=key _ hy;rw[keyLt'_oneType];rw[G,O] at q ⊢;exact oneLt_int q
 ·have sz:=G.size_eq;obtain⟨ns',h1,h2,h3⟩:=sorted_out hI G (λi j Y hj=>by
   rcases Nat.eq_or_lt_of_le Y with rfl|U
   ·exact Int.le_refl _
   ·have ei:∀k (J:k<xs.size),K xs k=iv (xs.toList[k]'(by simpa using J)).1:=λk J=>by
     have hm:xs.toList[k]'(by simpa using J)∈(iI vs).toList:=(c9.mp G).mem_iff.mp (eS _)
     obtain⟨p,t,e⟩:=hI.intKeys _ hm;unfold K;rw[<- aS,af (by simpa using J)]
     generalize xs.toList[k]'(by simpa using J)=z at e
     obtain⟨z1,z2⟩:=z;cases e
     rfl
    rw[ei i (by lia),ei j (by lia)]
    have:=bT.mp hs i j (by simp;lia) (by simp;lia) U
    have:=of_decide_eq_false this
    lia)
  exact h _ ns' h1 h2 h3
end
end SF
set_option maxHeartbeats 1000000
namespace HT
open PySem
theorem ltS_tot(h:ltS a b=false)(hne:a≠b):ltS b a=true:=by
 refine decide_eq_true ?_;have h1:=of_decide_eq_false h;refine aI λh2=>hne ?_;have e:=List.le_antisymm (List.not_lt.mp h2) (List.not_lt.mp h1);cases a;cases b
 congr 1
 exact Array.toList_inj.mp e
theorem ltS_tr(h:ltS a b=true)(h':ltS b c=true):ltS a c=true:=decide_eq_true (List.lt_trans (of_decide_eq_true h) (of_decide_eq_true h'))
theorem ltS_ir(a:Str):ltS a a=false:=decide_eq_false (List.lt_irrefl _)
theorem ltS_as(h:ltS a b=true):ltS b a=false:=decide_eq_false (List.lt_asymm (of_decide_eq_true h))
theorem lexS_tot:∀{a b:List Str},lexS a b=false->a≠b->lexS b a=true
 |[],[],_,h=>absurd rfl h
 |[],_::_,h,_=>by cases h
 |_::_,[],_,_=>rfl
 |x::xs,y::ys,h,j=>by
  rw[lexS_cons] at h ⊢
  by_cases e:x=y
  ·rw[if_pos e] at h;rw[if_pos e.symm];exact lexS_tot h λz=>j (by rw[e,z])
  ·rw[if_neg e] at h;rw[if_neg λz=>e z.symm];exact ltS_tot h e
theorem lexS_as:∀{a b:List Str},lexS a b=true->lexS b a=false
 |[],[],h=>by cases h
 |[],_::_,_=>rfl
 |_::_,[],h=>by cases h
 |x::xs,y::ys,h=>by
  rw[lexS_cons] at h ⊢
  by_cases e:x=y
  ·rw[if_pos e] at h;rw[if_pos e.symm];exact lexS_as h
  ·rw[if_neg e] at h;rw[if_neg (λz=>e z.symm)];exact ltS_as h
theorem lexS_tr:∀{a b c:List Str},lexS a b=true->lexS b c=true->lexS a c=true
 |[],[],_,h,_=>by cases h
 |[],_::_,[],_,h=>by cases h
 |[],_::_,_::_,_,_=>rfl
 |_::_,[],_,h,_=>by cases h
 |_::_,_::_,[],_,h=>by cases h
 |x::xs,y::ys,z::zs,h,h'=>by
  rw[lexS_cons] at h h' ⊢
  by_cases e:x=y
  ·subst e;rw[if_pos rfl] at h
   by_cases j:x=z
   ·rw[if_pos j] at h' ⊢;exact lexS_tr h h'
   ·rw[if_neg j] at h' ⊢;exact h'
  ·rw[if_neg e] at h
   by_cases j:y=z
   ·subst j;rw[if_neg e];exact h
   ·rw[if_neg j] at h';have hxz:=ltS_tr h h'
    have:x≠z:=by rintro rfl;rw[ltS_ir] at hxz;cases hxz
    rw[if_neg this];exact hxz
end HT
namespace KS
open PySem PySem.W PyProof.Rows
theorem paired_idx{F:α->β->Prop}{l:List α}{m:List β}(p:aZ F l m)(a:α)(b:β):∀(idx:List Nat),(∀i∈idx,i<l.length)->aZ F (idx.map λi=>l.getD i a) (idx.map λi=>m.getD i b)
 |[],_=>.nil
 |i::idx,h=>by
  refine .cons ?_ (paired_idx p a b idx λj B=>h j (ak _ B));have hi:=h i ai;obtain⟨y,z,hf⟩:=L2.Paired.get' p (af hi);show F (l.getD i a) (m.getD i b);rw[aj,aj,z,af hi];exact hf
theorem TS.keep(t:TS h v d)(k:∀b o,h.get? b=some o->o.cls=.type "tuple"->h'.get? b=some o):TS h' v d:=by
 obtain⟨b,items,e,⟨o,z,j,r⟩,p⟩:=t;exact⟨b,items,e,⟨o,k b o z j,j,r⟩,p⟩
section
variable{prog:ax}{w:aK}{A:aU}{E:ab->ag->Prop}{s:ag}
theorem TS.uniq(t:TS h v d)(t':TS h v d'):d=d':=by
 obtain⟨b,items,rfl,⟨o,D,Y,n,hd⟩,p⟩:=t;obtain⟨b',j,e,⟨o',ho',B,Z,hd'⟩,O⟩:=t';cases e;rw[D] at ho';cases ho';rw[hd] at hd';cases hd';have go:∀{l:List ab}{d d':List Str},HT.SAre l d->HT.SAre l d'->d=d':=by
  intro l d d' p
  induction p generalizing d' with
  |nil=>intro q;cases q;rfl
  |cons z _ U =>
   intro q;cases q with
   |cons G J =>
    obtain⟨t,e⟩:=z;obtain⟨t',e'⟩:=G;rw[e] at e';cases e';rw[U J]
 exact go p O
open Classical in
noncomputable def dec(h:bb)(v:ab):List Str:=if e:∃d,TS h v d then e.choose else []
theorem dQr(t:TS h v d):dec h v=d:=by
 unfold dec;have e:∃d,TS h v d:=⟨d,t⟩;rw[dif_pos e];exact e.choose_spec.uniq t
theorem eJ2(h1:HT.lexS b a=false)(h2:HT.lexS c b=false):HT.lexS c a=false:=by
 cases e:HT.lexS c a with
 |false=>rfl
 |true =>
  by_cases z:b=a
  ·subst z;rw[h2] at e;cases e
  ·have:=HT.lexS_tr e (HT.lexS_tot h1 z)
   rw[h2] at this;cases this
theorem dJg{α β:Type}{f:α->β}{l:List β}{k:List β}(h:l.Perm k):∀{m:List α},k=m.map f->∃m':List α,m'.Perm m/\l=m'.map f:=by
 induction h with
 |nil=>exact λe=>⟨_,dJ _,e⟩
 |cons x _ U =>
  intro m e;cases m with
  |nil=>cases e
  |cons a m =>
   rw[aL] at e;injection e with z j
   obtain⟨m',p,q⟩:=U j;exact⟨a::m',p.cons a,by rw[aL,q,z]⟩
 |swap x y l =>
  intro m e;cases m with
  |nil=>cases e
  |cons a m =>
   cases m with
   |nil=>simp at e
   |cons b m =>
    rw[aL,aL] at e;injection e with z j
    injection j with j Y
    exact⟨b::a::m,.swap _ _ _,by rw[aL,aL,z,j,Y]⟩
 |trans p q D B =>
  intro m e;obtain⟨Z,J,z⟩:=B e;obtain⟨O,G,j⟩:=D z;exact⟨O,G.trans J,j⟩
theorem dQs{α:Type}(l:List α)(d:α):((a4 l.length).map λi=>l.getD i d)=l:=by
 apply jV
 ·simp
 ·intro i h1 h2;simp only[List.getElem_map,jl,aj];rw[af h2]
  rfl
theorem sort_tupsL(hu:A.units<bN)(ho:s.heap.get? a=some (b8 "list" vs.toArray n))(hp:aZ (TS s.heap) vs ds)(hz:vs.length<=sizeLine)
  (h:∀ (idx:List Nat) (h':bb) (c:Nat),idx.Perm (a4 vs.length)->(idx.map λi=>ds.getD i []).Pairwise (λa b=>HT.lexS b a=false)->(idx.map λi=>ds.getD i []).Perm ds->h'.get? a=some (b8 "list" (idx.map λi=>vs.getD i bZ).toArray c) ->
   (∀b o,b≠a->s.heap.get? b=some o->h'.get? b=some o)->P (.done (.ret .none)) {s with heap:=h'}) :
  aE (aF prog w) A (cr.«list.sort» ⟨[.ref a],[]⟩) P E s:=by
 have hl:=bL hp;have at_:∀i,i<vs.length->TS s.heap (vs.getD i bZ) (ds.getD i []):=λk hk=>by
  obtain⟨d,hd,t⟩:=L2.Paired.get' hp (af hk);rw[aj,aj,hd,af hk];exact t
 have B:∀v∈vs,TS s.heap v (dec s.heap v):=λv hv=>by
  obtain⟨i,hi,e⟩:=bd hv
  have:=at_ i hi
  rw[aj,af hi] at this;have J:TS s.heap v (ds.getD i []):=by rw[<- e];exact this
  rw[dQr J];exact J
 refine SF.sort_any (λu v=>HT.lexS (dec s.heap u) (dec s.heap v)) hz ho (λh2 kp h2l Q hq=>?_) λxs Y hs=>?_
 ·have kt:∀ b o,s.heap.get? b=some o->o.cls=.type "tuple"->h2.get? b=some o:=λb o e c=>kp b o (by
   rintro rfl;rw[ho] at e;have e':=a7 e;rw[<- e'] at c;have c':=c;injection c' with c''
   exact absurd c'' (by decide)) e
  have Z:=L2.Paired.imp (λv d t=>t.keep kt) hp;refine eXz Z (by rintro rfl;simp at h2l) fun κ hκ=>hq κ ⟨λx y Q Y hy q=>?_,λx y _ _ e=>HT.lexS_as e,λx y z _ _ _ D J=>eJ2 D J⟩
  have t1:=(B _ Y).keep kt;have O:=(B _ hy).keep kt;rcases hκ with rfl|rfl|rfl
  ·exact dQn t1 O q
  ·exact cXz hu t1 O q
  ·exact fXt hu t1 O q
 ·have pl:=c9.mp Y;obtain⟨idx,U,D⟩:=dJg pl (by
   rw[jj]
   conv=>lhs;rw[<- dQs vs bZ]
   rw[List.zip_map'])
  have G:∀i∈idx,i<vs.length:=λi hi=>bf.mp (U.mem_iff.mp hi);have eo:xs.map (·.2)=(idx.map λi=>vs.getD i bZ).toArray:=by
   apply Array.toList_inj.mp;rw[Array.toList_map,D,bg]
   rfl
  rw[eo];rw[D,cV] at hs;have s2:=cm (((s.heap.update a (cf λ_=>(#[]))).push (b8 "tuple" vs.toArray 0)).push (b8 "list" #[] 0)) a (cf λ_=>(idx.map λi=>vs.getD i bZ).toArray);obtain⟨J,ho1⟩:∃D,(s.heap.update a (cf λ_=>(#[]))).get? a=some (b8 "list" #[] D):=⟨_,e8 ho λ_=>#[]⟩;have sb:=cm s.heap a (cf λ_=>(#[]));refine h idx _ _ U ?_ ?_ (e8 (ae _ (ae _ ho1)) λ_=>_) λb o hb e=>(s2.2 b hb).trans (ae _ (ae _ ((sb.2 b hb).trans e)))
  ·rw[cV];refine hs.imp_of_mem λ{i j} hi hj hij=>?_;have a1:=dQr (at_ i (G i hi));have a2:=dQr (at_ j (G j hj));rw[<- a1,<- a2];exact hij
  ·have:=U.map λi=>ds.getD i []
   rw[hl,dQs] at this;exact this
theorem dQt{l:List (List Str)}(nd:l.Nodup)(h:l.Pairwise λa b=>HT.lexS b a=false):l.Pairwise λa b=>HT.lexS a b=true:=List.Pairwise.imp (λ⟨h1,h2⟩=>HT.lexS_tot h1 λz=>h2 z.symm) (List.pairwise_and_iff.mpr ⟨h,nd⟩)
theorem sort_tups(hu:A.units<bN)(ho:s.heap.get? a=some (b8 "list" vs.toArray n))(hp:aZ (TS s.heap) vs ds)(nd:ds.Nodup)(hz:vs.length<=sizeLine)
  (h:∀ (idx:List Nat) (h':bb) (c:Nat),idx.Perm (a4 vs.length)->(idx.map λi=>ds.getD i []).Pairwise (λa b=>HT.lexS a b=true)->(idx.map λi=>ds.getD i []).Perm ds->h'.get? a=some (b8 "list" (idx.map λi=>vs.getD i bZ).toArray c) ->
   (∀b o,b≠a->s.heap.get? b=some o->h'.get? b=some o)->P (.done (.ret .none)) {s with heap:=h'}) :
  aE (aF prog w) A (cr.«list.sort» ⟨[.ref a],[]⟩) P E s:=sort_tupsL hu ho hp hz λidx h' c B z j g k=>h idx h' c B (dQt (j.nodup_iff.mpr nd) z) j g k
end
end KS
namespace ST
open PySem PySem.SetTable PySem.Spec PyProof.Rows
def restr{prog:ax}{w:aK}{κ:Type}(D:SetKd prog w κ)(W:κ->ab->Prop):SetKd prog w κ where
 is:=λh k v=>D.is h k v/\W k v
 I:=λh a es ep t=>D.I h a es ep t/\∀e∈es.toList,∃k,D.is h k e.2/\W k e.2
 inj:=λa b=>D.inj a.1 b.1
 obj:=λx=>D.obj x.1
 fits:=λx=>D.fits x.1
 few:=λx p nd hp=>D.few x.1 (L2.Paired.mapP p λ_ _ q=>q.1) nd hp
 fresh:=λh=>⟨D.fresh h,λe he=>by simp at he⟩
 keepIs:=λx kp=>⟨D.keepIs x.1 kp,x.2⟩
 keepI:=λx e kp=>⟨D.keepI x.1 e kp,λe he=>let ⟨k,h1,h2⟩:=x.2 e he;⟨k,D.keepIs h1 kp,h2⟩⟩
 add:=λ{A E s a es ep t k x Q} hu hI hx hn h=>by
  refine D.add hu hI.1 hx.1 hn λh' tk es' ep' t' added q1 q2 q3 q4 q5=>?_;have kp:=aXs (D.obj hI.1) q2;have up:∀e∈es.toList,∃k,D.is h' k e.2/\W k e.2:=λe he=>let ⟨k,h1,h2⟩:=hI.2 e he;⟨k,D.keepIs h1 kp,h2⟩
  rcases q5 with⟨r1,r2,e,he,r3⟩|⟨r1,⟨hh,r2⟩,r3⟩
  ·obtain⟨k',z1,z2⟩:=hI.2 e he
   have:=D.inj r3 z1
   subst this;exact h h' tk es' ep' t' added ⟨q1,by rw[r2];exact up⟩ q2 q3 q4 (.inl ⟨r1,r2,e,he,r3,z2⟩)
  ·refine h h' tk es' ep' t' added ⟨q1,λe he=>?_⟩ q2 q3 q4 (.inr ⟨r1,⟨hh,r2⟩,λ⟨e,he,z⟩=>r3 ⟨e,he,z.1⟩⟩);rcases av.mp (r2.mem_iff.mp he) with z|z
   ·subst z;exact⟨k,D.keepIs hx.1 kp,hx.2⟩
   ·exact up e z
end ST
namespace L2
open PySem PySem.Spec PyProof.Rows
def stO(p:Addr)(es:Array (Int×ab))(ep:Nat)(t:a6):HO:=.ext λh=>h.get? p=some (ST.setOb es ep t)
abbrev PV(K:Fg)(H:Hp):ab->V×List Str->Prop:=λv p=>RelV p.1 v/\dT K dS H p.1 p.2
def dSt(w:aK)(K:Fg):Dn (List (List Str)):=λH v ms=>∃p es ep t ps,v=.ref p/\H p=some (stO p es ep t)/\t.fits es.size=true/\t.led=ST.ledOf w/\(t.plain=true->es.size<=1)/\aZ (PV K H) (es.toList.map (·.2)) ps/\ms=ps.map (·.2)
theorem Inv.drawn{σ:St}(I:Inv X pins σ H s)(d:_):Inv X pins σ H {s with drawn:=d} :=
 ⟨I.ok,I.os,I.bare,I.base,I.loc,I.cell,I.free,I.freeC,I.pin,I.hok,I.len⟩
section
variable{X:Cx}
theorem eJ3{K:Fg}{H:Hp}{h:bb}{P:ax}{w:aK}:∀{es:List (Int×ab)}{ms:List (List Str)},aZ (λ(e:Int×ab) k=>ST.TK P w h k e.2/\∃x,RelV x e.2/\dT K dS H x k) es ms->∃ps,aZ (PV K H) (es.map (·.2)) ps/\ms=ps.map (·.2)
 |_,_,.nil=>⟨[],.nil,rfl⟩
 |_,_,.cons ⟨_,x,r,d⟩ q=>by
  obtain⟨ps,h1,h2⟩:=eJ3 q;exact⟨(x,_)::ps,.cons ⟨r,d⟩ h1,by rw[h2];rfl⟩
theorem eQz{σ:St}(I:Inv X pins σ H s):∀{xs:List V}{us:List ab}{ds:List (List Str)},aZ (dT X.K dS H) xs ds->Vals xs us->aZ (λv k=>ST.TK P w s.heap k v/\∃x,RelV x v/\dT X.K dS H x k) us ds
 |_,_,_,.nil,.nil=>.nil
 |_,_,_,.cons p q,.cons r t=>by
  refine .cons ⟨?_,_,r,p⟩ (eQz I q t);obtain⟨b,ys,rfl,D,pp⟩:=p;cases r;obtain⟨B,z,j,_⟩:=I.tuple D;exact dQg (K:=X.K) pp z j
end
section
variable{X:Cx}
theorem fJ3{K:Fg}{pins:List (Addr×Obj)}{σ:St}{H:Hp}{s:ag}(I:Inv X pins σ H s)(hK:X.K=K){h':bb}(k:∀b o,s.heap.get? b=some o->h'.get? b=some o):∀{vs:List ab}{ps:List (V×List Str)},aZ (PV K H) vs ps->aZ (KS.TS h') vs (ps.map (·.2))
 |_,_,.nil=>.nil
 |_,_,.cons ⟨r,d⟩ q=>by
  refine .cons ?_ (fJ3 I hK k q);obtain⟨b,xs,e,B,pp⟩:=d;rw[e] at r;cases r;rw[<- hK] at B;obtain⟨j,D,⟨o,G,z⟩,_⟩:=I.tuple B;exact⟨b,j.toArray,rfl,⟨o,k b o G,z⟩,aXt pp D⟩
theorem cZn:∀(ps:List (V×List Str)) (i:Nat),(ps.map (·.2)).getD i []=(ps.getD i (V.non,[])).2
 |[],i=>by simp
 |p::ps,0=>by simp
 |p::ps,i+1=>by simpa using cZn ps i
theorem bXa{K:Fg}{H:Hp}:∀{vs:List ab}{zs:List (V×List Str)},aZ (PV K H) vs zs->Vals (zs.map (·.1)) vs/\aZ (dT K dS H) (zs.map (·.1)) (zs.map (·.2))
 |_,_,.nil=>⟨.nil,.nil⟩
 |_,_,.cons ⟨r,d⟩ q=>⟨.cons r (bXa q).1,.cons d (bXa q).2⟩
theorem dQu:∀{xs:List V}{us:List ab}{ds:List Str},aZ (dS H) xs ds->Vals xs us->kc us ds
 |_,_,_,.nil,.nil=>.nil
 |_,_,_,.cons p q,.cons r t=>by
  cases p;obtain⟨k,rfl⟩:=r;exact .cons _ k (dQu q t)
theorem bXb:∀{us:List ab}{ds:List Str},kc us ds->Vals (ds.map V.str) us/\aZ (dS H) (ds.map V.str) ds
 |_,_,.nil=>⟨.nil,.nil⟩
 |_,_,.cons y t r=>⟨.cons ⟨t,rfl⟩ (bXb (H:=H) r).1,.cons rfl (bXb r).2⟩
theorem eZ0:∀{l:List Str},sortedS l=true->l.Nodup->l.Pairwise λa b=>HT.ltS a b=true
 |[],_,_=>.nil
 |[x],_,_=>bj _ _
 |x::y::l,h,nd=>by
  have h':(!ltCps y.cps.toList x.cps.toList&&risingS y l)=true:=h;rw[aV] at h';have D:=eZ0 (l:=y::l) h'.2 (bo.mp nd).2;have j:HT.ltS x y=true:=by
   have e:HT.ltS y x=false:=by
    have:=h'.1
    rw[dg] at this;rw[ltCps_eq] at this;exact this
   exact HT.ltS_tot e λz=>(bo.mp nd).1 (z▸ai)
  refine aN.mpr ⟨λz B=>?_,D⟩;rcases av.mp B with rfl|B
  ·exact j
  ·exact HT.ltS_tr j ((aN.mp D).1 z B)
end
end L2
set_option maxHeartbeats 4000000
namespace L2
open PySem PySem.Spec PyProof.Rows
def cutS(z:Str)(lo hi:Option Int):Str:=if ((cW lo hi 1 z.length).length==z.length)=true then z else ⟨((cW lo hi 1 z.length).filterMap (z.cps[·]?)).toArray⟩
def rSlS:V->Option Int->Option Int->Hp->VK->Prop:=λx lo hi H Q=>∃z,x=.str z/\z.length<=1000000/\Q (.str (cutS z lo hi)) H
theorem sl_str:SlR X rSlS:=by
 intro pins s σ H x v vl Z lo hi sl Q I O hs pl pu h;obtain⟨z,rfl,hz,q⟩:=h;obtain⟨t,rfl⟩:=O;refine⟨"str",_,PySem.F.slot_str_getitem.lookup,typeIs_str _ _ _,?_⟩;have go:∀(l u:Option (Int×Tok)),l.map (·.1)=lo->u.map (·.1)=hi->s.heap.IsSlice sl l u none->aE (aF X.prog X.w) X.A (j4 (.str z t) (.ref sl)) (EP X pins σ Q) X.xe s:=λl u hl U Y=>by
  refine wpAny_getItem_str_slice Y rfl ?_;unfold sliceMade slicePicked;simp only[Option.map_none,jL,beq_self_eq_true,eQ,hl,U];unfold cutS at q
  by_cases c:((cW lo hi 1 z.length).length==z.length)=true
  ·rw[if_pos c] at q ⊢;exact⟨.str z,H,I,⟨t,rfl⟩,q⟩
  ·rw[if_neg c] at q ⊢;refine⟨?_,.str _,H,I.tok _,⟨_,rfl⟩,q⟩;have h1:=PyProof.Rows.indices_len_le lo hi z.length;have h2:((cW lo hi 1 z.length).filterMap (z.cps[·]?)).length<=(cW lo hi 1 z.length).length:=List.length_filterMap_le _ _;show((cW lo hi 1 z.length).filterMap (z.cps[·]?)).toArray.size<=_;rw[ay,bH];lia
 obtain⟨o,B,D,hd⟩:=hs;cases pl with
 |none =>
  cases pu with
  |none=>exact go none none rfl rfl ⟨o,B,D,hd⟩
  |int j G=>exact go none (some (j,G)) rfl rfl ⟨o,B,D,hd⟩
 |int i J =>
  cases pu with
  |none=>exact go (some (i,J)) none rfl rfl ⟨o,B,D,hd⟩
  |int j G=>exact go (some (i,J)) (some (j,G)) rfl rfl ⟨o,B,D,hd⟩
end L2
set_option maxHeartbeats 1000000
namespace L2
open PySem PySem.Spec PyProof.Rows
inductive D where
 |non|bl (b:Bool)|int (i:Int)|str (x:Str)|ty (n:String)|ref (a:Addr)|tup (xs:List D)|lst (xs:List D)
abbrev Am:=Addr->Prop
structure Keep(M:Am)(H:Hp)(M':Am)(H':Hp):Prop where
 st:∀a o,¬ M a->H a=some o->H' a=some o
 nm:∀a,¬ M a->H a≠none->¬ M' a
def Xo:HO->Prop
 |.ext _=>True
 |.ins _ _ _=>True
 |_=>False
inductive DO where
 |lst (xs:List D)|dk (kvs:List (Key×D))|dt (kvs:List (List Key×D))
 |tb (pos:Pos) (qual:Str)
 |ex (f:Am->Hp->Addr->Prop) (hk:∀M M' H H' a,Keep M H M' H'->H' a=H a->f M H a->f M' H' a) (hl:∀M H a,f M H a->∃g,H a=some g/\Xo g)
abbrev Sto:=Addr->Option DO
abbrev Gm:=List (Option D)
def supd(S:Sto)(a:Addr)(o:DO):Sto:=λb=>if b=a then some o else S b
theorem aQc:supd S a o a=some o:=by unfold supd;rw[if_pos rfl]
theorem supd_ne(h:b≠a):supd S a o b=S b:=by unfold supd;rw[if_neg h]
def TupAt(K:Fg)(M:Am)(H:Hp)(a:Addr)(xs:List V):Prop:=(¬ M a/\Rd H a (.tup xs))\/SqT K (λ_=>none) a xs
theorem TupAt.sq{K:Fg}(h:TupAt K M H a xs):SqT K H a xs:=by
 rcases h with h|(h|⟨o,h⟩)|h
 ·exact .inl h.2
 ·cases h
 ·cases h
 ·exact .inr h
def LstAt(K:Fg)(M:Am)(H:Hp)(a:Addr)(xs:List V):Prop:=(¬ M a/\Rd H a (.lst xs))\/SqL K (λ_=>none) a xs
theorem LstAt.sq{K:Fg}(h:LstAt K M H a xs):SqL K H a xs:=by
 rcases h with h|(h|⟨o,h⟩)|h
 ·exact .inl h.2
 ·cases h
 ·cases h
 ·exact .inr h
mutual
def RepV(K:Fg)(M:Am)(H:Hp):D->V->Prop
 |.non,v=>v=.non
 |.bl b,v=>v=.bl b
 |.int i,v=>v=.int i
 |.str x,v=>v=.str x
 |.ty n,v=>v=.ty n
 |.ref a,v=>v=.ref a
 |.tup ds,v=>∃a xs,v=.ref a/\TupAt K M H a xs/\RepL K M H ds xs
 |.lst ds,v=>∃a xs,v=.ref a/\LstAt K M H a xs/\RepL K M H ds xs
def RepL(K:Fg)(M:Am)(H:Hp):List D->List V->Prop
 |[],xs=>xs=[]
 |d::ds,xs=>∃v vs,xs=v::vs/\RepV K M H d v/\RepL K M H ds vs
end
theorem Rd.live(r:Rd H a u):H a≠none:=by
 rcases r with r|⟨o,r⟩ <;> rw[r] <;> exact λz=>by cases z
theorem Keep.rd(k:Keep M H M' H'){a:Addr}{u:HO}(hm:¬ M a)(r:Rd H a u):Rd H' a u:=by
 rcases r with r|⟨o,r⟩
 ·exact .inl (k.st a _ hm r)
 ·exact .inr ⟨o,k.st a _ hm r⟩
theorem TupAt.keep{K:Fg}(t:TupAt K M H p us)(x:Keep M H M' H'):TupAt K M' H' p us:=by
 rcases t with⟨hm,r⟩|t
 ·exact .inl ⟨x.nm p hm r.live,x.rd hm r⟩
 ·exact .inr t
theorem LstAt.keep{K:Fg}(t:LstAt K M H p us)(x:Keep M H M' H'):LstAt K M' H' p us:=by
 rcases t with⟨hm,r⟩|t
 ·exact .inl ⟨x.nm p hm r.live,x.rd hm r⟩
 ·exact .inr t
mutual
theorem RepV.keep{K:Fg}{M M':Am}{H H':Hp}(k:Keep M H M' H'):∀{d:D}{v:V},RepV K M H d v->RepV K M' H' d v
 |.non,_,h=>h
 |.bl _,_,h=>h
 |.int _,_,h=>h
 |.str _,_,h=>h
 |.ty _,_,h=>h
 |.ref _,_,h=>h
 |.tup ds,v,h=>by
  unfold RepV at h ⊢;obtain⟨a,xs,e,t,l⟩:=h;exact⟨a,xs,e,t.keep k,RepL.keep k l⟩
 |.lst ds,v,h=>by
  unfold RepV at h ⊢;obtain⟨a,xs,e,t,l⟩:=h;exact⟨a,xs,e,t.keep k,RepL.keep k l⟩
theorem RepL.keep{K:Fg}{M M':Am}{H H':Hp}(k:Keep M H M' H'):∀{ds:List D}{xs:List V},RepL K M H ds xs->RepL K M' H' ds xs
 |[],_,h=>h
 |d::ds,xs,h=>by
  unfold RepL at h ⊢;obtain⟨v,vs,e,r,l⟩:=h;exact⟨v,vs,e,RepV.keep k r,RepL.keep k l⟩
end
section
variable{K:Fg}{M:Am}{H:Hp}
theorem RepL.length:∀{ds:List D}{xs:List V},RepL K M H ds xs->xs.length=ds.length
 |[],_,h=>by rw[h];rfl
 |d::ds,xs,h=>by
  obtain⟨v,vs,rfl,_,l⟩:=h;simp[RepL.length l]
theorem RepL.nil:RepL K M H [] []:=by rfl
theorem RepL.cons{d:D}{ds:List D}{v:V}{vs:List V}(r:RepV K M H d v)(l:RepL K M H ds vs):RepL K M H (d::ds) (v::vs):=⟨v,vs,rfl,r,l⟩
theorem RepL.app:∀{ds es:List D}{xs ys:List V},RepL K M H ds xs->RepL K M H es ys->RepL K M H (ds++es) (xs++ys)
 |[],es,xs,ys,h,h'=>by rw[h];exact h'
 |d::ds,es,xs,ys,h,h'=>by
  obtain⟨v,vs,rfl,r,l⟩:=h;exact RepL.cons r (RepL.app l h')
theorem RepL.get:∀{ds:List D}{xs:List V}{i:Nat}{d:D},RepL K M H ds xs->ds[i]?=some d->∃v,xs[i]?=some v/\RepV K M H d v
 |[],_,_,_,_,e=>by simp at e
 |d::ds,xs,0,e,h,he=>by
  obtain⟨v,vs,rfl,r,l⟩:=h;simp at he;subst he;exact⟨v,rfl,r⟩
 |d::ds,xs,i+1,e,h,he=>by
  obtain⟨v,vs,rfl,r,l⟩:=h;obtain⟨w,h1,h2⟩:=RepL.get l (by simpa using he)
  exact⟨w,by simpa using h1,h2⟩
theorem RepL.get'{i:Nat}(h:RepL K M H ds xs)(e:xs[i]?=some v):∃d,ds[i]?=some d/\RepV K M H d v:=by
 have hl:=h.length;have hi:i<xs.length:=by
  rcases Nat.lt_or_ge i xs.length with z|z
  ·exact z
  ·rw[cC z] at e;cases e
 have j:ds[i]?=some ds[i]:=af (by lia)
 obtain⟨w,h1,h2⟩:=h.get j;rw[e] at h1;cases h1;exact⟨_,j,h2⟩
theorem RepL.take:∀{ds:List D}{xs:List V}(n:Nat),RepL K M H ds xs->RepL K M H (ds.take n) (xs.take n)
 |_,_,0,_=>by simpa using RepL.nil
 |[],_,n+1,h=>by subst h;simpa using RepL.nil
 |d::ds,xs,n+1,h=>by
  obtain⟨v,vs,rfl,r,l⟩:=h;simpa using RepL.cons r (RepL.take n l)
theorem RepL.drop:∀{ds:List D}{xs:List V}(n:Nat),RepL K M H ds xs->RepL K M H (ds.drop n) (xs.drop n)
 |_,_,0,h=>by simpa using h
 |[],_,n+1,h=>by subst h;simpa using RepL.nil
 |d::ds,xs,n+1,h=>by
  obtain⟨v,vs,rfl,r,l⟩:=h;simpa using RepL.drop n l
theorem RepL.one(h:RepL K M H [d] xs):∃v,xs=[v]/\RepV K M H d v:=by
 obtain⟨v,vs,rfl,r,l⟩:=h;subst l;exact⟨v,rfl,r⟩
theorem RepL.two(h:RepL K M H [d,e] xs):∃v w,xs=[v,w]/\RepV K M H d v/\RepV K M H e w:=by
 obtain⟨v,vs,rfl,r,l⟩:=h;obtain⟨w,rfl,j⟩:=l.one;exact⟨v,w,rfl,r,j⟩
end
def mt(S:Sto)(F:Am):Am:=λa=>S a≠none\/F a
abbrev cdO(c:Addr)(oc:Obj):HO:=.ext λh=>h.get? c=some oc
def TbOk(M:Am)(H:Hp)(pos:Pos)(qual:Str)(ps:Array ab):Prop:=TriplesOk ps.toList/\(codeAmong pos ps.toList=none \/
 ∃c oc,codeAmong pos ps.toList=some (.ref c)/\¬ M c/\H c=some (cdO c oc)/\∃vs t,oc.data=.fields vs/\vs[1]?=some (.str qual t))
theorem TbOk.keep(k:Keep M H M' H'){pos:Pos}{qual:Str}{ps:Array ab}(h:TbOk M H pos qual ps):TbOk M' H' pos qual ps:=by
 obtain⟨h1,h2⟩:=h;refine⟨h1,h2.imp id λ⟨c,oc,B,m,j,r⟩=>⟨c,oc,B,k.nm c m (by rw[j];exact λz=>by cases z),k.st c _ m j,r⟩⟩
def RepO(K:Fg)(M:Am)(H:Hp)(a:Addr):DO->Prop
 |.lst ds=>∃xs,H a=some (.lst xs)/\RepL K M H ds xs
 |.dk kvs=>∃ks,H a=some (.dK ks)/\aZ (λ(p:Key×V) (q:Key×D)=>p.1=q.1/\RepV K M H q.2 p.2) ks kvs
 |.dt kvs=>∃ks,H a=some (.dT ks)/\aZ (λ(p:List Key×V) (q:List Key×D)=>p.1=q.1/\RepV K M H q.2 p.2) ks kvs
 |.tb pos qual=>∃ps,H a=some (.tbl ps)/\TbOk M H pos qual ps
 |.ex f _ _=>f M H a
theorem RepO.live{K:Fg}(h:RepO K M H a o):H a≠none:=by
 cases o with
 |ex f j hl=>obtain⟨g,e,_⟩:=hl _ _ _ h;rw[e];exact λz=>by cases z
 |_=>obtain⟨xs,e,_⟩:=h;rw[e];exact λz=>by cases z
theorem RepO.keep{K:Fg}(k:Keep M H M' H'){a:Addr}{o:DO}(e:H' a=H a)(h:RepO K M H a o):RepO K M' H' a o:=by
 cases o with
 |lst ds=>obtain⟨xs,j,l⟩:=h;exact⟨xs,e.trans j,l.keep k⟩
 |dk B=>obtain⟨xs,j,l⟩:=h;exact⟨xs,e.trans j,Paired.imp (λ_ _ z=>⟨z.1,z.2.keep k⟩) l⟩
 |dt B=>obtain⟨xs,j,l⟩:=h;exact⟨xs,e.trans j,Paired.imp (λ_ _ z=>⟨z.1,z.2.keep k⟩) l⟩
 |tb pos qual=>obtain⟨xs,j,l⟩:=h;exact⟨xs,e.trans j,l.keep k⟩
 |ex f D hl=>exact D _ _ _ _ _ k e h
def Clt:HO->Prop
 |.lst _=>True
 |.ext _=>True
 |_=>False
structure Rp(K:Fg)(F:Am)(S:Sto)(H:Hp):Prop where
 obj:∀a o,S a=some o->RepO K (mt S F) H a o
 frm:∀a,F a->(∃u,H a=some u/\Clt u)/\S a=none
structure Ext(S:Sto)(H:Hp)(S':Sto)(H':Hp):Prop where
 keep:∀a o,S a=none->H a=some o->H' a=some o
 live:∀a,H a≠none->H' a≠none
 new:∀a,S' a≠none->S a≠none\/H a=none
theorem Ext.refl(S:Sto)(H:Hp):Ext S H S H:=⟨λ_ _ _ h=>h,λ_ h=>h,λ_ h=>.inl h⟩
theorem Ext.sn(x:Ext S H S' H'){a:Addr}(h:S a=none)(h':H a≠none):S' a=none:=by
 cases e:S' a with
 |none=>rfl
 |some o =>
  rcases x.new a (by rw[e];exact λz=>by cases z) with z|z
  ·exact absurd h z
  ·exact absurd z h'
theorem Ext.trans(x:Ext S H S1 H1)(y:Ext S1 H1 S2 H2):Ext S H S2 H2 :=
 ⟨λa o h h'=>y.keep a o (x.sn h (by rw[h'];exact λz=>by cases z)) (x.keep a o h h'),λa h=>y.live a (x.live a h),λa h=>by
  rcases y.new a h with z|z
  ·exact x.new a z
  ·refine .inr (aI λn=>x.live a n z)⟩
theorem Ext.same(s:Same H H'):Ext S H S H' where
 keep:=λa o _ h=>s a o h
 live:=λa h=>by
  cases e:H a with
  |none=>exact absurd e h
  |some o =>
   rw[s a o e];exact λz=>by cases z
 new:=λ_ h=>.inl h
theorem Ext.kp(x:Ext S H S' H'):Keep (mt S F) H (mt S' F) H':=⟨λa o h e=>x.keep a o (aI λn=>h (.inl n)) e,λa h e=>λz=>by
 rcases z with z|z
 ·rcases x.new a z with y|y
  ·exact h (.inl y)
  ·exact e y
 ·exact h (.inr z)⟩
section
variable{K:Fg}{F:Am}{S S':Sto}{H H':Hp}
theorem RepV.ext(h:RepV K (mt S F) H d v)(x:Ext S H S' H'):RepV K (mt S' F) H' d v:=h.keep x.kp
theorem RepL.ext(h:RepL K (mt S F) H ds vs)(x:Ext S H S' H'):RepL K (mt S' F) H' ds vs:=h.keep x.kp
theorem Rp.same(r:Rp K F S H)(s:Same H H'):Rp K F S H' where
 obj:=λa o h=>by
  have q:=r.obj a o h;have e:H' a=H a:=by
   cases z:H a with
   |none=>exact absurd z q.live
   |some u=>exact s a u z
  exact q.keep (Ext.same s).kp e
 frm:=λa h=>by
  obtain⟨⟨zs,e,ct⟩,h2⟩:=r.frm a h;exact⟨⟨zs,s a _ e,ct⟩,h2⟩
theorem Ext.write(h:S a≠none):Ext S H (supd S a o) (upd H a u) where
 keep:=λb B h1 h2=>by
  have ne:b≠a:=by rintro rfl;exact h h1
  rw[upd_ne ne];exact h2
 live:=λb j=>by
  by_cases e:b=a
  ·subst e;rw[aQ6];exact λz=>by cases z
  ·rw[upd_ne e];exact j
 new:=λb j=>by
  by_cases e:b=a
  ·subst e;exact .inl h
  ·rw[supd_ne e] at j;exact .inl j
theorem Rp.write(r:Rp K F S H)(h:S a≠none)(q:RepO K (mt (supd S a o) F) (upd H a u) a o):Rp K F (supd S a o) (upd H a u) where
 obj:=λb j hb=>by
  by_cases e:b=a
  ·subst e;rw[aQc] at hb;cases hb;exact q
  ·rw[supd_ne e] at hb;exact(r.obj b j hb).keep (Ext.write h).kp (upd_ne e)
 frm:=λb hb=>by
  have e:b≠a:=by rintro rfl;exact h (r.frm b hb).2
  rw[upd_ne e,supd_ne e];exact r.frm b hb
theorem Rp.sn(r:Rp K F S H){a:Addr}(h:H a=none):S a=none:=by
 cases e:S a with
 |none=>rfl
 |some o=>exact absurd h (r.obj a o e).live
theorem Ext.mk'(h:H a=none):Ext S H (supd S a o) (upd H a u) where
 keep:=λb z h1 h2=>by
  have ne:b≠a:=by rintro rfl;rw[h] at h2;cases h2
  rw[upd_ne ne];exact h2
 live:=λb j=>by
  have ne:b≠a:=by rintro rfl;exact j h
  rw[upd_ne ne];exact j
 new:=λb j=>by
  by_cases e:b=a
  ·subst e;exact .inr h
  ·rw[supd_ne e] at j;exact .inl j
theorem Rp.mk'(r:Rp K F S H)(h:H a=none)(q:RepO K (mt (supd S a o) F) (upd H a u) a o):Rp K F (supd S a o) (upd H a u) where
 obj:=λb j hb=>by
  by_cases e:b=a
  ·subst e;rw[aQc] at hb;cases hb;exact q
  ·rw[supd_ne e] at hb;exact(r.obj b j hb).keep (Ext.mk' h).kp (upd_ne e)
 frm:=λb hb=>by
  have e:b≠a:=by
   rintro rfl;obtain⟨⟨zs,e,_⟩,_⟩:=r.frm b hb;rw[h] at e;cases e
  rw[upd_ne e,supd_ne e];exact r.frm b hb
theorem Ext.less(h:∀ a o,S' a=some o->S a=some o):Ext S H S' H:=⟨λ_ _ _ e=>e,λ_ e=>e,λa e=>.inl λz=>by
 cases q:S' a with
 |none=>exact e q
 |some o=>rw[h a o q] at z;cases z⟩
theorem Rp.less(r:Rp K F S H)(h:∀a o,S' a=some o->S a=some o):Rp K F S' H where
 obj:=λa o e=>(r.obj a o (h a o e)).keep (Ext.less h).kp rfl
 frm:=λa e=>⟨(r.frm a e).1,by
  cases q:S' a with
  |none=>rfl
  |some o=>have:=h a o q;rw[(r.frm a e).2] at this;cases this⟩
end
def look(g:Gm)(i:Nat)(k:D->Prop):Prop:=match i with
 |0=>match g with
  |some d::_=>k d
  |_=>False
 |n+1=>match g with
  |_::g=>look g n k
  |[]=>False
def RepG(K:Fg)(M:Am)(H:Hp):Gm->St->Prop
 |[],σ=>σ=[]
 |none::g,σ=>∃v τ,σ=v::τ/\RepG K M H g τ
 |some d::g,σ=>∃v τ,σ=some v::τ/\RepV K M H d v/\RepG K M H g τ
theorem RepG.keep{K:Fg}(k:Keep M H M' H'):∀{g:Gm}{σ:St},RepG K M H g σ->RepG K M' H' g σ
 |[],_,h=>h
 |none::g,_,⟨v,τ,e,r⟩=>⟨v,τ,e,RepG.keep k r⟩
 |some d::g,_,⟨v,τ,e,q,r⟩=>⟨v,τ,e,q.keep k,RepG.keep k r⟩
theorem RepG.ext{K:Fg}(h:RepG K (mt S F) H g σ)(x:Ext S H S' H'):RepG K (mt S' F) H' g σ:=h.keep x.kp
theorem RepG.look{K:Fg}:∀{g:Gm}{σ:St}{i:Nat},RepG K M H g σ->look g i k->∃v d,σ[i]?=some (some v)/\RepV K M H d v/\k d
 |[],_,0,_,h=>d5 h
 |[],_,_+1,_,h=>d5 h
 |none::_,_,0,_,h=>d5 h
 |some d::g,_,0,⟨v,τ,e,q,r⟩,h=>⟨v,d,by rw[e];rfl,q,h⟩
 |some d::g,_,i+1,⟨v,τ,e,q,r⟩,h=>by
  obtain⟨u,z,j,h1⟩:=RepG.look r h;exact⟨u,z,by rw[e];simpa using j,h1⟩
 |none::g,_,i+1,⟨v,τ,e,r⟩,h=>by
  obtain⟨u,z,j,h1⟩:=RepG.look r h;exact⟨u,z,by rw[e];simpa using j,h1⟩
theorem RepG.set{K:Fg}(q:RepV K M H d v):∀{g:Gm}{σ:St}(i:Nat),RepG K M H g σ->RepG K M H (g.set i (some d)) (σ.set i (some v))
 |[],_,_,h=>by cases h;rfl
 |none::g,_,0,⟨w,τ,e,r⟩=>by subst e;exact⟨v,τ,rfl,q,r⟩
 |some _::g,_,0,⟨w,τ,e,_,r⟩=>by subst e;exact⟨v,τ,rfl,q,r⟩
 |none::g,_,i+1,⟨w,τ,e,r⟩=>by subst e;exact⟨w,_,rfl,RepG.set q i r⟩
 |some _::g,_,i+1,⟨w,τ,e,z,r⟩=>by subst e;exact⟨w,_,rfl,z,RepG.set q i r⟩
abbrev DK:=D->Sto->Prop
abbrev ED:=Gm->Sto->DK->Prop
abbrev TD:=Gm->Sto->(Bool->Sto->Prop)->Prop
abbrev AD:=Gm->Sto->(List D->Sto->Prop)->Prop
structure EndsD where
 nx:Gm->Sto->Prop
 rt:DK
 bk:Gm->Sto->Prop:=λ_ _=>False
 ct:Gm->Sto->Prop:=λ_ _=>False
abbrev SD:=EndsD->Gm->Sto->Prop
def upE(K:Fg)(t:ED):TE:=fun σ H Q=>∃F S Γ QD,Rp K F S H/\RepG K (mt S F) H Γ σ/\t Γ S QD/\∀v d H' S',Ext S H S' H'->Rp K F S' H'->RepV K (mt S' F) H' d v->QD d S'->Q v H'
theorem upE.el{K:Fg}{p:Prop}(h:upE K t σ H Q)(k:∀F S Γ QD,Rp K F S H->RepG K (mt S F) H Γ σ->t Γ S QD->(∀v d H' S',Ext S H S' H'->Rp K F S' H'->RepV K (mt S' F) H' d v->QD d S'->Q v H')->p):p:=by
 obtain⟨F,S,Γ,QD,h0,h1,h2,j⟩:=h;exact k F S Γ QD h0 h1 h2 j
def upT(K:Fg)(t:TD):TT:=fun σ H Q=>∃F S Γ QD,Rp K F S H/\RepG K (mt S F) H Γ σ/\t Γ S QD/\∀b H' S',Ext S H S' H'->Rp K F S' H'->QD b S'->Q b H'
theorem upT.el{K:Fg}{p:Prop}(h:upT K t σ H Q)(k:∀F S Γ QD,Rp K F S H->RepG K (mt S F) H Γ σ->t Γ S QD->(∀b H' S',Ext S H S' H'->Rp K F S' H'->QD b S'->Q b H')->p):p:=by
 obtain⟨F,S,Γ,QD,h0,h1,h2,j⟩:=h;exact k F S Γ QD h0 h1 h2 j
def upA(K:Fg)(t:AD):TA:=fun σ H Q=>∃F S Γ QD,Rp K F S H/\RepG K (mt S F) H Γ σ/\t Γ S QD/\∀vs ds H' S',Ext S H S' H'->Rp K F S' H'->RepL K (mt S' F) H' ds vs->QD ds S'->Q vs H'
theorem upA.el{K:Fg}{p:Prop}(h:upA K t σ H Q)(k:∀F S Γ QD,Rp K F S H->RepG K (mt S F) H Γ σ->t Γ S QD->(∀vs ds H' S',Ext S H S' H'->Rp K F S' H'->RepL K (mt S' F) H' ds vs->QD ds S'->Q vs H')->p):p:=by
 obtain⟨F,S,Γ,QD,h0,h1,h2,j⟩:=h;exact k F S Γ QD h0 h1 h2 j
structure CnS(K:Fg)(F:Am)(S:Sto)(H:Hp)(E:EndsD)(D':Ends):Prop where
 nx:∀Γ' S' σ' H',Ext S H S' H'->Rp K F S' H'->RepG K (mt S' F) H' Γ' σ'->E.nx Γ' S'->D'.nx σ' H'
 rt:∀v d H' S',Ext S H S' H'->Rp K F S' H'->RepV K (mt S' F) H' d v->E.rt d S'->D'.rt v H'
 bk:∀Γ' S' σ' H',Ext S H S' H'->Rp K F S' H'->RepG K (mt S' F) H' Γ' σ'->E.bk Γ' S'->D'.bk σ' H'
 ct:∀Γ' S' σ' H',Ext S H S' H'->Rp K F S' H'->RepG K (mt S' F) H' Γ' σ'->E.ct Γ' S'->D'.ct σ' H'
theorem CnS.ext{K:Fg}(c:CnS K F S H E D')(x:Ext S H S1 H1):CnS K F S1 H1 E D' :=
 ⟨fun Γ' S' σ' H' y=>c.nx Γ' S' σ' H' (x.trans y),λv d H' S' y=>c.rt v d H' S' (x.trans y),fun Γ' S' σ' H' y=>c.bk Γ' S' σ' H' (x.trans y),fun Γ' S' σ' H' y=>c.ct Γ' S' σ' H' (x.trans y)⟩
def upS(K:Fg)(t:SD):TS:=λD' σ H=>∃F S Γ E,Rp K F S H/\RepG K (mt S F) H Γ σ/\t E Γ S/\CnS K F S H E D'
theorem upS.el{K:Fg}{p:Prop}(h:upS K t D' σ H)(k:∀F S Γ E,Rp K F S H->RepG K (mt S F) H Γ σ->t E Γ S->CnS K F S H E D'->p):p:=by
 obtain⟨F,S,Γ,E,h0,h1,h2,j⟩:=h;exact k F S Γ E h0 h1 h2 j
structure PD(K:Fg)(X:Cx)(e:Expr)(t:ED):Prop where
 o:PE X e (upE K t)
structure PTD(K:Fg)(X:Cx)(e:Expr)(t:TD):Prop where
 o:PT X e (upT K t)
structure PAD(K:Fg)(X:Cx)(es:List Expr)(t:AD):Prop where
 o:PA X es (upA K t)
structure PSD(K:Fg)(X:Cx)(st:Stmt)(t:SD):Prop where
 o:PS X st (upS K t)
structure PSsD(K:Fg)(X:Cx)(st:List Stmt)(t:SD):Prop where
 o:PSs X st (upS K t)
section
variable{X:Cx}{K:Fg}
theorem PD.of(h:PE X e te)(i:∀σ H Q,upE K t σ H Q->te σ H Q):PD K X e t:=⟨λpins s σ H Q I q=>h pins s σ H Q I (i σ H Q q)⟩
theorem PTD.of(h:PT X e te)(i:∀σ H Q,upT K t σ H Q->te σ H Q):PTD K X e t:=⟨λpins s σ H Q I q=>h pins s σ H Q I (i σ H Q q)⟩
theorem PAD.of(h:PA X e te)(i:∀σ H Q,upA K t σ H Q->te σ H Q):PAD K X e t:=⟨λpos pins s σ H Q I q=>h pos pins s σ H Q I (i σ H Q q)⟩
theorem PSD.of(h:PS X e te)(i:∀D' σ H,upS K t D' σ H->te D' σ H):PSD K X e t:=⟨λpins s σ H D' I q=>h pins s σ H D' I (i D' σ H q)⟩
theorem PSsD.of(h:PSs X e te)(i:∀D' σ H,upS K t D' σ H->te D' σ H):PSsD K X e t:=⟨λpins s σ H D' I q=>h pins s σ H D' I (i D' σ H q)⟩
def dVar(i:Nat):ED:=fun Γ S Q=>look Γ i λd=>Q d S
def dC(d:D):ED:=λ_ S Q=>Q d S
theorem dv(i:Nat){x:Str}{pos:Pos}(hN:X.N[i]?=some x:=by rfl)(hv:Vis X.env.scope x:=by first|exact a8 rfl|exact iC (a8 rfl)|exact iC (iC rfl))(hd:(x=="__debug__")=false:=by decide)
  (hcd:(x=="__classdict__")=false:=by decide):PD K X (.Name x pos) (dVar i):=.of (fZf hN hv hd hcd) fun σ H Q j=>j.el λF S Γ QD r g h c=>by
 obtain⟨v,d,e,q,z⟩:=g.look h;exact⟨v,e,c v d H S (Ext.refl _ _) r q z⟩
theorem up_c(h:∀M H,RepV K M H d v):∀σ H Q,upE K (dC d) σ H Q->tC v σ H Q:=fun σ H Q j=>j.el λF S Γ QD r g q c=>c v d H S (Ext.refl _ _) r (h _ _) q
theorem aQ8:PD K X (.Constant (.int i) j pos) (dC (.int i)):=.of fZg (up_c λ_ _=>by rfl)
theorem e_bl:PD K X (.Constant (.bool b) j pos) (dC (.bl b)):=.of gZa (up_c λ_ _=>by rfl)
theorem bZ9:PD K X (.Constant .none j pos) (dC .non):=.of fZh (up_c λ_ _=>by rfl)
theorem gZv:PD K X (.Constant (.str x) j pos) (dC (.str x)):=.of fZi (up_c λ_ _=>by rfl)
def Cn(K:Fg)(F:Am)(S:Sto)(H:Hp)(QD:DK)(Q:VK):Prop:=∀v d H' S',Ext S H S' H'->Rp K F S' H'->RepV K (mt S' F) H' d v->QD d S'->Q v H'
abbrev R2D:=D->D->Sto->DK->Prop
def OpD(K:Fg)(r:R2)(rd:R2D):Prop:=∀F S H d e x y Q QD,Rp K F S H->RepV K (mt S F) H d x->RepV K (mt S F) H e y->rd d e S QD->Cn K F S H QD Q->r x y H Q
def dOp(rd:R2D)(ta tb:ED):ED:=fun Γ S Q=>ta Γ S λx S1=>tb Γ S1 λy S2=>rd x y S2 Q
theorem dJh(h:OpD K r rd):∀σ H Q,upE K (dOp rd ta tb) σ H Q->tOp r (upE K ta) (upE K tb) σ H Q:=fun σ H Q D=>D.el λF S Γ QD r g q c =>
 ⟨F,S,Γ,_,r,g,q,λx d H1 S1 B O v1 Y=>⟨F,S1,Γ,_,O,g.ext B,Y,λy e H2 S2 j J v2 U=>h F S2 H2 d e x y Q QD J (v1.ext j) v2 U λv z H3 Z G=>c v z H3 Z (B.trans (j.trans G))⟩⟩
theorem e_op(ho:OpR X (fb op) r)(h:OpD K r rd)(ha:PD K X a ta)(hb:PD K X b tb):PD K X (.BinOp a op b pos) (dOp rd ta tb):=.of (gZj ho ha.o hb.o) (dJh h)
theorem dQv(ho:OpR X (bU op) r)(h:OpD K r rd)(ha:PD K X a ta)(hb:PD K X b tb)(hm:eP op b=false):PD K X (.Compare a [op] [b] pos) (dOp rd ta tb):=.of (eX5 ho ha.o hb.o hm) (dJh h)
def aZj(t:ED):TD:=fun Γ S Q=>t Γ S λd S1=>∃b,d=.bl b/\Q b S1
theorem fJ4(h:OpD K r rd):∀ σ H Q,upT K (aZj (dOp rd ta tb)) σ H Q->eX6 (tOp r (upE K ta) (upE K tb)) σ H Q:=fun σ H Q q=>dJh h σ H _ (by
 obtain⟨F,S,Γ,QD,r,g,q,c⟩:=q;refine⟨F,S,Γ,_,r,g,q,λv d H1 D j z v1 ⟨b,e,B⟩=>?_⟩;subst e;exact⟨b,v1,c b H1 D j z B⟩)
theorem aX2(ho:OpR X (bU op) r)(h:OpD K r rd)(ha:PD K X a ta)(hb:PD K X b tb)(hm:eP op b=false):PTD K X (.Compare a [op] [b] pos) (aZj (dOp rd ta tb)):=.of (eX7 ho ha.o hb.o hm) (fJ4 h)
end
end L2
set_option maxHeartbeats 4000000
namespace L2
open PySem PySem.Spec PyProof.Rows
section
variable{K:Fg}{F:Am}{S:Sto}{H:Hp}{QD:DK}{Q:VK}
theorem Cn.here(c:Cn K F S H QD Q)(r:Rp K F S H){d:D}{v:V}(h:RepV K (mt S F) H d v)(q:QD d S):Q v H:=c v d H S (Ext.refl _ _) r h q
theorem Cn.int(c:Cn K F S H QD Q)(r:Rp K F S H){i:Int}(q:QD (.int i) S):Q (.int i) H:=c.here r (by rfl) q
theorem Cn.str(c:Cn K F S H QD Q)(r:Rp K F S H){i:Str}(q:QD (.str i) S):Q (.str i) H:=c.here r (by rfl) q
theorem Cn.bl(c:Cn K F S H QD Q)(r:Rp K F S H){i:Bool}(q:QD (.bl i) S):Q (.bl i) H:=c.here r (by rfl) q
theorem Rp.nmt(r:Rp K F S H){a:Addr}(h:H a=none):¬ mt S F a:=λz=>by
 rcases z with z|z
 ·exact z (r.sn h)
 ·obtain⟨⟨zs,e,_⟩,_⟩:=r.frm a z;rw[h] at e;cases e
theorem Cn.tup(c:Cn K F S H QD Q)(r:Rp K F S H){l:Addr}(h:H l=none){ds:List D}{xs:List V}(rl:RepL K (mt S F) H ds xs)(q:QD (.tup ds) S):Q (.ref l) (upd H l (.tup xs)):=by
 have x:Ext S H S (upd H l (.tup xs)):=Ext.same (aQs h);refine c _ _ _ S x (r.same (aQs h)) ?_ q;exact⟨l,xs,rfl,.inl ⟨r.nmt h,.inl aQ6⟩,rl.ext x⟩
theorem Cn.lst(c:Cn K F S H QD Q)(r:Rp K F S H){l:Addr}(h:H l=none){ds:List D}{xs:List V}(rl:RepL K (mt S F) H ds xs)(q:QD (.lst ds) S):Q (.ref l) (upd H l (.lst xs)):=by
 have x:Ext S H S (upd H l (.lst xs)):=Ext.same (aQs h);refine c _ _ _ S x (r.same (aQs h)) ?_ q;exact⟨l,xs,rfl,.inl ⟨r.nmt h,.inl aQ6⟩,rl.ext x⟩
theorem Cn.lstR(c:Cn K F S H QD Q)(r:Rp K F S H){l:Addr}(h:H l=none){ds:List D}{xs:List V}(rl:RepL K (mt S F) H ds xs)(q:QD (.ref l) (supd S l (.lst ds))):Q (.ref l) (upd H l (.lst xs)):=by
 have x:Ext S H (supd S l (.lst ds)) (upd H l (.lst xs)):=Ext.mk' h;exact c _ _ _ _ x (r.mk' h ⟨xs,aQ6,rl.ext x⟩) (by rfl) q
def newL(b:Bool)(ds:List D)(S:Sto)(Q:DK):Prop:=match b with
 |false=>Q (.lst ds) S
 |true=>∀p,S p=none->Q (.ref p) (supd S p (.lst ds))
theorem Cn.new(c:Cn K F S H QD Q)(r:Rp K F S H){b:Bool}{l:Addr}(h:H l=none){ds:List D}{xs:List V}(rl:RepL K (mt S F) H ds xs)(q:newL b ds S QD):Q (.ref l) (upd H l (.lst xs)):=by
 cases b with
 |false=>exact c.lst r h rl q
 |true=>exact c.lstR r h rl (q l (r.sn h))
def lsIs(S:Sto):D->List D->Prop
 |.lst ys,xs=>ys=xs
 |.ref a,xs=>S a=some (.lst xs)
 |_,_=>False
def sqIs(S:Sto):D->List D->Prop
 |.tup ys,xs=>ys=xs
 |.lst ys,xs=>ys=xs
 |.ref a,xs=>S a=some (.lst xs)
 |_,_=>False
theorem lsIs.sl(r:Rp K F S H){d:D}{v:V}{ds:List D}(h:RepV K (mt S F) H d v)(l:lsIs S d ds):∃a xs,v=.ref a/\SqL K H a xs/\RepL K (mt S F) H ds xs:=by
 cases d with
 |lst ys =>
  cases l;obtain⟨a,xs,e,q,z⟩:=h;exact⟨a,xs,e,q.sq,z⟩
 |ref a =>
  obtain⟨xs,e,z⟩:=r.obj a _ l;exact⟨a,xs,h,SqL.of e,z⟩
 |_=>exact l.elim
theorem tup.st(h:RepV K (mt S F) H (.tup ds) v):∃a xs,v=.ref a/\SqT K H a xs/\RepL K (mt S F) H ds xs:=by
 obtain⟨a,xs,e,t,z⟩:=h;exact⟨a,xs,e,t.sq,z⟩
theorem sqIs.sq(r:Rp K F S H){d:D}{v:V}{ds:List D}(h:RepV K (mt S F) H d v)(l:sqIs S d ds):∃a xs,v=.ref a/\(SqL K H a xs\/SqT K H a xs)/\RepL K (mt S F) H ds xs:=by
 cases d with
 |tup ys =>
  cases l;obtain⟨a,xs,e,t,z⟩:=tup.st h;exact⟨a,xs,e,.inr t,z⟩
 |lst ys =>
  obtain⟨a,xs,e,t,z⟩:=lsIs.sl r h (l)
  exact⟨a,xs,e,.inl t,z⟩
 |ref a =>
  obtain⟨a,xs,e,t,z⟩:=lsIs.sl r h (l)
  exact⟨a,xs,e,.inl t,z⟩
 |_=>exact l.elim
theorem rint(h:RepV K (mt S F) H (.int i) v):v=.int i:=h
theorem rstr(h:RepV K (mt S F) H (.str i) v):v=.str i:=h
theorem rbl(h:RepV K (mt S F) H (.bl i) v):v=.bl i:=h
theorem rref(h:RepV K (mt S F) H (.ref i) v):v=.ref i:=h
theorem rnon(h:RepV K (mt S F) H .non v):v=.non:=h
end
section
variable{X:Cx}{K:Fg}
def fJ5(K:Fg):R2:=λx y H Q=>∃l b xs zs,x=.ref l/\y=.ref b/\SqL K H l xs/\SqL K H b zs/\xs.length+zs.length<=sizeLine/\∀p,H p=none->Q (.ref p) (upd H p (.lst (xs++zs)))
theorem eJ4(hK:X.K=K:=by rfl):OpR X (fb .Add) (fJ5 K):=by
 subst hK;intro pins s σ H x y v u Q I rx ry h;obtain⟨l,b,xs,zs,rfl,rfl,hH,hB,hz,q⟩:=h;cases rx;cases ry;obtain⟨B,r,⟨⟨cls,dd,data,sl⟩,n,Y,Z,hd,G⟩,hz1⟩:=I.list hH;obtain⟨j,U,⟨⟨cls2,dd2,data2,O⟩,n2,D,J,hd2,z⟩,hz2⟩:=I.list hB;simp only at Z hd G J hd2 z;subst Z hd G J hd2 z;have h1:=r.length;have h2:=U.length;refine j3 ⟨_,Y,rfl⟩ ⟨_,D,rfl⟩ noFill_list_add seq_list_add PySem.F.slot_list_add PySem.F.entry_list_add (PySem.F.args_list_add_2 _ _)
  (list_addW l b B.toArray j.toArray n n2 none none sl O (by rw[ay,ay];lia)) ⟨Y,D,?_⟩
 have ea:B.toArray++j.toArray=(B++j).toArray:=by simp
 rw[ea];exact⟨.ref _,_,I.lnew (r.append U) (by rw[au];lia),rfl,q _ I.fresh⟩
def fJ6(K:Fg):R2:=λx y H Q=>∃a b ys,x=.ref a/\y=.ref b/\SqT K H a []/\SqT K H b ys/\Q (.ref b) H
theorem eJ5(hK:X.K=K:=by rfl):OpR X (fb .Add) (fJ6 K):=by
 subst hK;intro pins s σ H x y v u Q I rx ry h;obtain⟨a,b,ys,rfl,rfl,ha,hb,q⟩:=h;cases rx;cases ry;obtain⟨its,r1,Y,_⟩:=I.tuple ha;obtain⟨G,r2,p2,_⟩:=I.tuple hb;cases r1;obtain⟨⟨cls,dd,data,sl⟩,J,O,n,hd⟩:=id Y;obtain⟨⟨U,D,data2,B⟩,j,z,Z,hd2⟩:=id p2;simp only at O hd z hd2;subst O hd z hd2;exact j3 ⟨_,J,rfl⟩ ⟨_,j,rfl⟩ jK seq_tuple_add g7 gV (gG _ _)
   (tuple_addW0 a b _ _ n Z dd D sl B rfl) ⟨J,j,⟨.ref b,H,I,rfl,q⟩⟩
def addD(b:Bool):R2D:=λd e S Q=>match d,e with
 |.int i,.int j=>Q (.int (i+j)) S
 |.str x,.str y=>x.length+y.length<=sizeLine/\Q (.str (x++y)) S
 |.tup xs,.tup ys=>xs.length+ys.length<=sizeLine/\Q (.tup (xs++ys)) S
 |d,e=>∃xs ys,lsIs S d xs/\lsIs S e ys/\xs.length+ys.length<=sizeLine/\newL b (xs++ys) S Q
def eJ6(K:Fg):R2:=λx y H Q=>rI0 (λi j=>.int (i+j)) x y H Q\/(∃i j,x=.str i/\y=.str j/\i.length+j.length<=sizeLine/\Q (.str (i++j)) H)\/eXc K x y H Q\/fJ6 K x y H Q\/fJ5 K x y H Q
theorem eJ7(hK:X.K=K:=by rfl):OpR X (fb .Add) (eJ6 K):=op_add.or (op_add_str.or ((dJc hK).or ((eJ5 hK).or (eJ4 hK))))
theorem fJ7:OpD K (eJ6 K) (addD b):=by
 intro F S H d e x y Q QD r hd he h c;have lists:(∃xs ys,lsIs S d xs/\lsIs S e ys/\xs.length+ys.length<=sizeLine/\newL b (xs++ys) S QD)->eJ6 K x y H Q:=by
  rintro⟨xs,ys,O,J,U,q⟩;obtain⟨a,us,rfl,s1,B⟩:=lsIs.sl r hd O;obtain⟨a2,us2,rfl,s2,p2⟩:=lsIs.sl r he J;exact .inr (.inr (.inr (.inr ⟨a,a2,us,us2,rfl,rfl,s1,s2,by rw[B.length,p2.length];exact U,λp D=>c.new r D (B.app p2) q⟩)))
 cases d with
 |int i =>
  cases e with
  |int j=>rw[rint hd,rint he];exact .inl ⟨i,j,rfl,rfl,c.int r h⟩
  |_=>exact lists h
 |str i =>
  cases e with
  |str j=>rw[rstr hd,rstr he];exact .inr (.inl ⟨i,j,rfl,rfl,h.1,c.str r h.2⟩)
  |_=>exact lists h
 |tup xs =>
  cases e with
  |tup ys =>
   obtain⟨a,us,rfl,s1,B⟩:=tup.st hd;obtain⟨a2,us2,rfl,s2,p2⟩:=tup.st he
   by_cases G:xs=[]
   ·subst G;subst B;exact .inr (.inr (.inr (.inl ⟨a,a2,us2,rfl,rfl,s1,s2,c.here r he (by simpa using h.2)⟩)))
   ·refine .inr (.inr (.inl ⟨a,a2,us,us2,rfl,rfl,s1,s2,λz=>G ?_,by rw[B.length,p2.length];exact h.1,λz=>?_,λ_ p D=>c.tup r D (B.app p2) h.2⟩))
    ·have:=B.length;rw[z] at this;exact b7 this.symm
    ·have h0:ys=[]:=by have:=p2.length;rw[z] at this;exact b7 this.symm
     subst h0;exact c.here r hd (by simpa using h.2)
  |_=>exact lists h
 |_=>exact lists h
def iiD(C:Int->Int->Prop)(g:Int->Int->D):R2D:=λd e S Q=>match d,e with
 |.int i,.int j=>C i j/\Q (g i j) S
 |_,_=>False
theorem od_I{g:Int->Int->Int}:OpD K (rI C λi j=>.int (g i j)) (iiD C λi j=>.int (g i j)):=by
 intro F S H d e x y Q QD r hd he h c;cases d with
 |int i =>
  cases e with
  |int j=>rw[rint hd,rint he];exact⟨i,j,rfl,rfl,h.1,c.int r h.2⟩
  |_=>exact h.elim
 |_=>exact h.elim
def iiD0(g:Int->Int->D):R2D:=λd e S Q=>match d,e with
 |.int i,.int j=>Q (g i j) S
 |_,_=>False
theorem gZw{g:Int->Int->Int}:OpD K (rI0 λi j=>.int (g i j)) (iiD0 λi j=>.int (g i j)):=by
 intro F S H d e x y Q QD r hd he h c;cases d with
 |int i =>
  cases e with
  |int j=>rw[rint hd,rint he];exact⟨i,j,rfl,rfl,c.int r h⟩
  |_=>exact h.elim
 |_=>exact h.elim
theorem cJ0{g:Int->Int->Bool}:OpD K (rI0 λi j=>.bl (g i j)) (iiD0 λi j=>.bl (g i j)):=by
 intro F S H d e x y Q QD r hd he h c;cases d with
 |int i =>
  cases e with
  |int j=>rw[rint hd,rint he];exact⟨i,j,rfl,rfl,c.bl r h⟩
  |_=>exact h.elim
 |_=>exact h.elim
section
variable{a b:Expr}{ta tb:ED}{pos:Pos}
theorem aZk(ha:PD K X a ta)(hb:PD K X b tb)(hK:X.K=K:=by rfl):PD K X (.BinOp a .Add b pos) (dOp (addD k) ta tb):=e_op (eJ7 hK) fJ7 ha hb
theorem eJ8(ha:PD K X a ta)(hb:PD K X b tb):PD K X (.BinOp a .Sub b pos) (dOp (iiD0 λi j=>.int (i-j)) ta tb):=e_op fZs gZw ha hb
theorem bXc(ha:PD K X a ta)(hb:PD K X b tb):PD K X (.BinOp a .Mult b pos) (dOp (iiD CMul λi j=>.int (i*j)) ta tb):=e_op fZt od_I ha hb
theorem bZa(ha:PD K X a ta)(hb:PD K X b tb):PD K X (.BinOp a .Mod b pos) (dOp (iiD (λ_ j=>0<j) λi j=>.int (i%j)) ta tb):=e_op fZu od_I ha hb
theorem bJn(ha:PD K X a ta)(hb:PD K X b tb):PD K X (.BinOp a .FloorDiv b pos) (dOp (iiD CDiv λi j=>.int (i/j)) ta tb):=e_op eX2 od_I ha hb
theorem gZx(ha:PD K X a ta)(hb:PD K X b tb):PD K X (.BinOp a .Pow b pos) (dOp (iiD CPow λi j=>.int (i^j.toNat)) ta tb):=e_op fZv od_I ha hb
end
def unD(g:Int->D):D->Sto->DK->Prop:=λd S Q=>match d with
 |.int i=>Q (g i) S
 |_=>False
def dUn(rd:D->Sto->DK->Prop)(ta:ED):ED:=fun Γ S Q=>ta Γ S λx S1=>rd x S1 Q
theorem dJi(ha:PD K X a ta):PD K X (.UnaryOp .USub a pos) (dUn (unD λi=>.int (-i)) ta):=.of (gZk fZw ha.o) fun σ H Q B=>B.el λF S Γ QD r g q c =>
 ⟨F,S,Γ,_,r,g,q,λv d H1 Y G J v1 j=>by
  cases d with
  |int i=>rw[rint v1];exact⟨i,rfl,Cn.int (λv z U O D=>c v z U O (G.trans D)) J j⟩
  |_=>exact j.elim⟩
def dNil:AD:=λ_ S Q=>Q [] S
def cQn(ta:ED)(tr:AD):AD:=fun Γ S Q=>ta Γ S λx S1=>tr Γ S1 λxs S2=>Q (x::xs) S2
theorem aQ1:PAD K X [] dNil:=.of bQ8 fun σ H Q j=>j.el λF S Γ QD r g q c=>c [] [] H S (Ext.refl _ _) r RepL.nil q
theorem aQ0(ha:PD K X e te)(hr:PAD K X es t)(hs:aD (e::es) X.env=(false,eval e X.env)::aD es X.env:=by rfl):PAD K X (e::es) (cQn te t) :=
 .of (aXp ha.o hr.o hs) fun σ H Q B=>B.el λF S Γ QD r g q c=>⟨F,S,Γ,_,r,g,q,λv d H1 Y z G v1 O=>⟨F,Y,Γ,_,G,g.ext z,O,λvs ds H2 U j D v2 J=>c (v::vs) (d::ds) H2 U (z.trans j) D (RepL.cons (v1.ext j) v2) J⟩⟩
def dTup(t:AD):ED:=fun Γ S Q=>t Γ S λds S1=>ds.length<=sizeLine/\Q (.tup ds) S1
def dLst(b:Bool)(t:AD):ED:=fun Γ S Q=>t Γ S λds S1=>ds.length<=sizeLine/\newL b ds S1 Q
theorem Cn.shift(c:∀v d H' S',Ext S H S' H'->Rp K F S' H'->RepV K (mt S' F) H' d v->QD d S'->Q v H')(x:Ext S H S1 H1):Cn K F S1 H1 QD Q:=λv z D B j=>c v z D B (x.trans j)
theorem aX6(h:PAD K X es t):PD K X (.Tuple es x1 pos) (dTup t):=.of (fX0 h.o) fun σ H Q z=>z.el λF S Γ QD r g q c =>
 ⟨F,S,Γ,_,r,g,q,λvs ds H1 G x1 B v1 j=>⟨by rw[v1.length];exact j.1,λp D=>(Cn.shift c x1).tup B D v1 j.2⟩⟩
theorem bJo(h:PAD K X es t):PD K X (.List es pos) (dLst b t):=.of (fX1 h.o) fun σ H Q z=>z.el λF S Γ QD r g q c =>
 ⟨F,S,Γ,_,r,g,q,λvs ds H1 J B D v1 j=>⟨by rw[v1.length];exact j.1,λp G=>(Cn.shift c B).new D G v1 j.2⟩⟩
abbrev RCD:=List D->Sto->DK->Prop
def bXd(K:Fg)(r:List V->Hp->VK->Prop)(rd:RCD):Prop:=∀F S H ds vs Q QD,Rp K F S H->RepL K (mt S F) H ds vs->rd ds S QD->Cn K F S H QD Q->r vs H Q
def dCB(rd:RCD)(t:AD):ED:=fun Γ S Q=>t Γ S λds S1=>rd ds S1 Q
theorem fJ8(h:bXd K r rd):∀σ H Q,upE K (dCB rd t) σ H Q->tCB r (upA K t) σ H Q:=fun σ H Q j=>j.el λF S Γ QD r g q c =>
 ⟨F,S,Γ,_,r,g,q,λvs ds H1 G z B v1 D=>h F G H1 ds vs Q QD B v1 D (Cn.shift c z)⟩
theorem aXu{id:String}{r:List V->Hp->VK->Prop}{rd:RCD}{x:Str}{p pos:Pos}{e:Expr}{es:List Expr}{t:AD}(hc:CallR X (.builtin id) r)(h:bXd K r rd)(hg:Gl X x)(hm:X.mg x=none)(hv:cD x=some (.builtin id))(ha:PAD K X (e::es) t)(hn:x ≠ "__name__":=by decide)(hdb:(x==("__debug__":Str))=false:=by decide)
  (he:aD (e::es) X.env=(false,eval e X.env)::aD es X.env:=by rfl) (hpl:(cM pos (aD es X.env)).any (·.1)=false:=by rfl):PD K X (.Call (.Name x p) (e::es) [] pos) (dCB rd t):=.of (aJ0 hc hg hm hv ha.o hn hdb he hpl) (fJ8 h)
theorem bXe{T:String}{r:List V->Hp->VK->Prop}{rd:RCD}{x:Str}{p pos:Pos}{e:Expr}{es:List Expr}{t:AD}(hc:CallR X (.type T) r)(h:bXd K r rd)(hg:Gl X x)(hm:X.mg x=none)(hv:cD x=some (.type T))(ha:PAD K X (e::es) t)(hn:x ≠ "__name__":=by decide)(hdb:(x==("__debug__":Str))=false:=by decide)
  (he:aD (e::es) X.env=(false,eval e X.env)::aD es X.env:=by rfl) (hpl:(cM pos (aD es X.env)).any (·.1)=false:=by rfl):PD K X (.Call (.Name x p) (e::es) [] pos) (dCB rd t):=.of (bQ9 hc hg hm hv ha.o hn hdb he hpl) (fJ8 h)
end
mutual
def beqD:D->D->Bool
 |.non,.non=>true
 |.bl a,.bl b=>a==b
 |.int a,.int b=>decide (a=b)
 |.str a,.str b=>decide (a=b)
 |.ty a,.ty b=>decide (a=b)
 |.ref a,.ref b=>decide (a=b)
 |.tup a,.tup b=>cQo a b
 |.lst a,.lst b=>cQo a b
 |_,_=>false
def cQo:List D->List D->Bool
 |[],[]=>true
 |a::as,b::bs=>beqD a b&&cQo as bs
 |_,_=>false
end
theorem bqE{α:Type}[BEq α][LawfulBEq α]{c:α->D}(inj:∀x y,c x=c y->x=y)(x y:α):(x==y)=true↔c x=c y:=⟨λh=>congrArg c (beq_iff_eq.mp h),λh=>beq_iff_eq.mpr (inj x y h)⟩
theorem bdE{α:Type}{c:α->D}(inj:∀x y,c x=c y->x=y)(x y:α){d:Decidable (x=y)}:@decide (x=y) d=true↔c x=c y:=⟨λh=>congrArg c (of_decide_eq_true h),λh=>decide_eq_true (inj x y h)⟩
theorem bnE(h:¬ p):false=true↔p:=⟨λz=>absurd z bh,λz=>absurd z h⟩
mutual
theorem dQw:∀{a b:D},beqD a b=true↔a=b
 |.non,b=>by
  cases b with
  |non=>exact⟨λ_=>rfl,λ_=>rfl⟩
  |_=>exact bnE (λh=>by cases h)
 |.bl x,b=>by
  cases b with
  |bl y=>exact bqE (λ_ _ h=>by injection h) x y
  |_=>exact bnE (λh=>by cases h)
 |.int x,b=>by
  cases b with
  |int y=>exact bdE (λ_ _ h=>by injection h) x y
  |_=>exact bnE (λh=>by cases h)
 |.str x,b=>by
  cases b with
  |str y=>exact bdE (λ_ _ h=>by injection h) x y
  |_=>exact bnE (λh=>by cases h)
 |.ty x,b=>by
  cases b with
  |ty y=>exact bdE (λ_ _ h=>by injection h) x y
  |_=>exact bnE (λh=>by cases h)
 |.ref x,b=>by
  cases b with
  |ref y=>exact bdE (λ_ _ h=>by injection h) x y
  |_=>exact bnE (λh=>by cases h)
 |.tup as,b=>by
  cases b with
  |tup bs=>exact beqDs_eq.trans ⟨λh=>congrArg D.tup h,λh=>by injection h⟩
  |_=>exact bnE (λh=>by cases h)
 |.lst as,b=>by
  cases b with
  |lst bs=>exact beqDs_eq.trans ⟨λh=>congrArg D.lst h,λh=>by injection h⟩
  |_=>exact bnE (λh=>by cases h)
theorem beqDs_eq:∀{a b:List D},cQo a b=true↔a=b
 |[],b=>by cases b <;> simp[cQo]
 |a::as,[]=>by simp[cQo]
 |a::as,b::bs=>by
  simp only[cQo,aV,List.cons.injEq];rw[dQw,beqDs_eq]
end
instance:DecidableEq D:=λa b=>decidable_of_iff _ (dQw (a:=a) (b:=b))
def okE:Nat->D->D->Bool
 |_,.int _,.int _=>true
 |_,.str _,.str _=>true
 |_,.bl _,.bl _=>true
 |_,.non,.non=>true
 |_,.non,.int _=>true
 |_,.int _,.non=>true
 |_,.non,.str _=>true
 |_,.str _,.non=>true
 |n+1,.non,.tup _=>true
 |n+1,.tup _,.non=>true
 |n+1,.tup xs,.tup ys=>(xs.zip ys).all λp=>okE n p.1 p.2
 |n+1,.lst xs,.lst ys=>(xs.zip ys).all λp=>okE n p.1 p.2
 |_,_,_=>false
abbrev okEs(n:Nat)(xs ys:List D):Bool:=(xs.zip ys).all λp=>okE n p.1 p.2
section
variable{X:Cx}{pins:List (Addr×Obj)}{σ:St}{H:Hp}{s:ag}{M:Am}
structure Eq3(A:aU)(s:ag)(u v:ab)(b:Bool):Prop where
 eq:cS A s u v b
 rc:SeqAt.RcAt A s u v b
 ne:cQ A s u v (!b)
theorem eJ9:decide (D.tup xs=D.tup ys)=decide (xs=ys):=by simp
theorem eJa:decide (D.lst xs=D.lst ys)=decide (xs=ys):=by simp
theorem eJb{xs ys:List D}{j:Nat}(h1:xs[j]?=some a)(h2:ys[j]?=some b):(a,b)∈xs.zip ys:=by
 have G:j<xs.length:=by
  rcases Nat.lt_or_ge j xs.length with z|z
  ·exact z
  ·rw[cC z] at h1;cases h1
 have B:j<ys.length:=by
  rcases Nat.lt_or_ge j ys.length with z|z
  ·exact z
  ·rw[cC z] at h2;cases h2
 have U:xs[j]=a:=by rw[af G] at h1;exact a7 h1
 have O:ys[j]=b:=by rw[af B] at h2;exact a7 h2
 have J:j<(xs.zip ys).length:=by rw[List.length_zip];lia
 have:(xs.zip ys)[j]=(a,b):=by rw[List.getElem_zip,U,O]
 rw[<- this];exact eS J
theorem eZ1(p:RepL X.K M H ds xs)(p':RepL X.K M H es ys)(r:Vals xs us)(r':Vals ys vs)(hz:okEs n ds es=true)
  (ih:∀{d e:D}{x y:V}{u v:ab},RepV X.K M H d x->RepV X.K M H e y->RelV x u->RelV y v->okE n d e=true->Eq3 A s u v (decide (d=e))) :
  ∀j (h1:j<us.toArray.size) (h2:j<vs.toArray.size),cS A s us.toArray[j] vs.toArray[j] (decide (ds[j]?=es[j]?)):=by
 intro j h1 h2;simp only[ay] at h1 h2;have J:j<xs.length:=by have:=r.length;lia
 have G:j<ys.length:=by have:=r'.length;lia
 obtain⟨d,Y,rd⟩:=p.get' (af J);obtain⟨e,U,re⟩:=p'.get' (af G);obtain⟨u,O,ru⟩:=r.get (af J);obtain⟨v,ev,Z⟩:=r'.get (af G);have B:us[j]=u:=by rw[af h1] at O;exact a7 O
 have z:vs[j]=v:=by rw[af h2] at ev;exact a7 ev
 have:decide (ds[j]?=es[j]?)=decide (d=e):=by rw[Y,U];simp
 rw[this];simp only[List.getElem_toArray];rw[B,z];exact(ih rd re ru Z (bI.mp hz _ (eJb Y U))).eq
theorem eZ2(I:Inv X pins σ H s)(q:SqL X.K H a xs)(q':SqL X.K H b ys)(p:RepL X.K M H ds xs)(p':RepL X.K M H es ys)(hz:okEs n ds es=true)(hu:A.units+(n+1)<bN)
  (ih:∀{d e:D}{x y:V}{u v:ab},RepV X.K M H d x->RepV X.K M H e y->RelV x u->RelV y v->okE n d e=true->Eq3 A.in1 s u v (decide (d=e))) :
  SeqAt.RcAt A s (.ref a) (.ref b) (decide (ds=es))/\cQ A s (.ref a) (.ref b) (!decide (ds=es)):=by
 obtain⟨us,O,pl,_⟩:=I.list q;obtain⟨vs,J,z,_⟩:=I.list q';have l1:=p.length;have Z:=p'.length;have Y:=O.length;have U:=J.length;have it:=eZ1 p p' O J hz ih
 by_cases hl:ds.length=es.length
 ·have hs:us.toArray.size=vs.toArray.size:=by rw[ay,ay];lia
  have G:((a4 (us.toArray.size)).all λj=>decide (ds[j]?=es[j]?))=decide (ds=es):=by
   have:=dQ2 ds es us.toArray.size vs.toArray.size (by rw[ay];lia) (by rw[ay];lia)
   rw[hs,Nat.min_self] at this;rw[hs,<- this];simp
  have h1:=SeqAt.RcAt.lists pl.isList z.isList hs (by lia) λj h1 h2=>it j h1 h2
  have h2:=cQ.lists pl.isList z.isList hs (by lia) λj h1 h2=>it j h1 h2
  rw[G] at h1 h2;exact⟨h1,h2⟩
 ·have hs:(us.toArray.size !=vs.toArray.size)=true:=by rw[ay,ay];simp;lia
  have B:ds≠es:=λe=>hl (by rw[e])
  rw[decide_eq_false B];exact⟨SeqAt.RcAt.lists_lengths pl.isList z.isList hs (by lia),cQ.lists_lengths pl.isList z.isList hs (by lia)⟩
theorem eJc(ih:∀{d e:D}{v:V},RepV X.K M H d v->RepV X.K M H e v->okE n d e=true->d=e):∀{ds es:List D}{xs:List V},RepL X.K M H ds xs->RepL X.K M H es xs->okEs n ds es=true->ds=es
 |[],[],_,_,_,_=>rfl
 |[],e::es,xs,p,j,_=>by have h1:=p.length;have h2:=j.length;rw[h1] at h2;simp at h2
 |d::ds,[],xs,p,j,_=>by have h1:=p.length;have h2:=j.length;rw[h1] at h2;simp at h2
 |d::ds,e::es,xs,p,j,h=>by
  obtain⟨v,vs,rfl,r,l⟩:=p;obtain⟨J,z,e1,B,G⟩:=j;cases e1;simp only[okEs,cI,iH,aV] at h;rw[ih r B h.1,eJc ih l G h.2]
theorem uniq(I:Inv X pins σ H s):∀(n:Nat) {d e:D}{v:V},RepV X.K M H d v->RepV X.K M H e v->okE n d e=true->d=e:=by
 intro n
 induction n with
 |zero =>
  intro d e v h h' o;cases d <;> cases e <;> first|rfl|(cases o;done)|(rw[h] at h';cases h';done)|(rw[h] at h';cases h';rfl)
 |succ n B =>
  intro d e v h h' o;cases d <;> cases e <;> first|rfl|(cases o;done)|(rw[h] at h';cases h';done)|(rw[h] at h';cases h';rfl)|skip
  ·obtain⟨a,xs,e1,_⟩:=h';rw[h] at e1;cases e1
  ·obtain⟨a,xs,e1,_⟩:=h;rw[h'] at e1;cases e1
  ·obtain⟨a,xs,rfl,t,l⟩:=h;obtain⟨b,ys,e1,j,z⟩:=h';cases e1
   have:=I.tuple_inj t.sq j.sq
   subst this;rw[eJc B l z o]
  ·obtain⟨a,xs,rfl,t,l⟩:=h;obtain⟨b,ys,e1,j,z⟩:=h';cases e1
   have:=I.list_inj t.sq j.sq
   subst this;rw[eJc B l z o]
theorem eq3(I:Inv X pins σ H s):∀(n:Nat) {A:aU}{d e:D}{x y:V}{u v:ab},A.units+n<bN->RepV X.K M H d x->RepV X.K M H e y->RelV x u->RelV y v->okE n d e=true->Eq3 A s u v (decide (d=e)):=by
 intro n
 induction n with
 |zero =>
  intro A d e x y u v hu h h' r r' o;cases d <;> cases e <;> first|(cases o;done)|skip
  all_goals subst h;subst h'
  ·cases r;cases r';exact⟨kj _,SeqAt.RcAt.none_none,cQ.none_none⟩
  ·cases r;obtain⟨t,rfl⟩:=r';exact⟨cS.none_int _ _,SeqAt.RcAt.none_int _ _,cQ.none_int _ _⟩
  ·cases r;obtain⟨t,rfl⟩:=r';exact⟨cS.none_str _ _,SeqAt.RcAt.none_str _ _,cQ.none_str _ _⟩
  ·cases r;cases r';rw[show ∀a b:Bool,decide (D.bl a=D.bl b)=(a==b) from by intro a b;cases a <;> cases b <;> rfl];exact⟨cS.bool_bool _ _,SeqAt.RcAt.bool_bool _ _,cQ.bool_bool _ _⟩
  ·obtain⟨t,rfl⟩:=r;cases r';exact⟨cS.int_none _ _,SeqAt.RcAt.int_none _ _,cQ.int_none _ _⟩
  ·obtain⟨t,rfl⟩:=r;obtain⟨J,rfl⟩:=r';rw[show ∀a b:Int,decide (D.int a=D.int b)=(a==b) from by intro a b;rw[beq_dec];simp];exact⟨cS.int_int _ _ _ _,SeqAt.RcAt.int_int _ _ _ _,cQ.int_int _ _ _ _⟩
  ·obtain⟨t,rfl⟩:=r;cases r';exact⟨cS.str_none _ _,SeqAt.RcAt.str_none _ _,cQ.str_none _ _⟩
  ·obtain⟨t,rfl⟩:=r;obtain⟨J,rfl⟩:=r';rw[show ∀a b:Str,decide (D.str a=D.str b)=(a==b) from by intro a b;rw[beq_dec];simp];exact⟨je _ _ _ _,SeqAt.RcAt.str_str _ _ _ _,cQ.str_str _ _ _ _⟩
 |succ n B =>
  intro A d e x y u v hu h h' r r' o;cases d <;> cases e <;> first|(cases o;done)|skip
  ·exact B (by lia) h h' r r' (by cases n <;> rfl)
  ·exact B (by lia) h h' r r' (by cases n <;> rfl)
  ·exact B (by lia) h h' r r' (by cases n <;> rfl)
  ·subst h;cases r;obtain⟨a,xs,rfl,t,l⟩:=(h')
   cases r';obtain⟨us,U,pl,_⟩:=I.tuple t.sq;exact⟨cS.none_tuple pl (by lia),SeqAt.RcAt.none_tuple pl (by lia),cQ.none_tuple pl (by lia)⟩
  ·exact B (by lia) h h' r r' (by cases n <;> rfl)
  ·exact B (by lia) h h' r r' (by cases n <;> rfl)
  ·exact B (by lia) h h' r r' (by cases n <;> rfl)
  ·exact B (by lia) h h' r r' (by cases n <;> rfl)
  ·exact B (by lia) h h' r r' (by cases n <;> rfl)
  ·subst h';cases r';obtain⟨a,xs,rfl,t,l⟩:=(h)
   cases r;obtain⟨us,U,pl,_⟩:=I.tuple t.sq;exact⟨cS.tuple_none pl (by lia),SeqAt.RcAt.tuple_none pl (by lia),cQ.tuple_none pl (by lia)⟩
  ·rename_i ds es;have un:=λ{e:D}=>uniq (e:=e) I (n+1) h;have h0:=h;have G:=h';obtain⟨a,xs,rfl,t,l⟩:=h;obtain⟨b,ys,rfl,J,Y⟩:=h';cases r;cases r';obtain⟨us,U,pl,_⟩:=I.tuple t.sq;obtain⟨vs,rv,O,_⟩:=I.tuple J.sq;have l1:=l.length;have l2:=Y.length;have l3:=U.length;have l4:=rv.length;have it:=eZ1 (A:=A.in1) l Y U rv o λq q' z Z o=>B (by lia) q q' z Z o
   have ans:=dQ2 ds es us.toArray.size vs.toArray.size (by rw[ay];lia) (by rw[ay];lia)
   have h1:=SeqAt.RcAt.tuples pl O (by lia) it
   have h2:=cQ.tuples pl O (by lia) it
   rw[ans] at h1 h2;rw[eJ9];refine⟨?_,h1,h2⟩
   by_cases j:a=b
   ·subst j;have e1:=un G o;cases e1;rw[decide_eq_true rfl];exact kj _
   ·exact kO j h1
  ·have un:=λ{e:D}=>uniq (e:=e) I (n+1) h;have G:=h';obtain⟨a,xs,rfl,t,l⟩:=h;obtain⟨b,ys,rfl,J,Y⟩:=h';cases r;cases r';obtain⟨h1,h2⟩:=eZ2 I t.sq J.sq l Y o hu λq q' z Z o=>B (by lia) q q' z Z o
   rw[eJa];refine⟨?_,h1,h2⟩
   by_cases j:a=b
   ·subst j;have e1:=un G o;cases e1;rw[decide_eq_true rfl];exact kj _
   ·exact kO j h1
def eqD(neg:Bool):R2D:=λd e S Q=>match d,e with
 |.ref a,e=>∃xs ys,S a=some (.lst xs)/\lsIs S e ys/\okEs 8 xs ys=true/\Q (.bl (if neg then !decide (xs=ys) else decide (xs=ys))) S
 |.lst xs,.ref a=>∃ys,S a=some (.lst ys)/\okEs 8 xs ys=true/\Q (.bl (if neg then !decide (xs=ys) else decide (xs=ys))) S
 |d,e=>okE 9 d e=true/\Q (.bl (if neg then !decide (d=e) else decide (d=e))) S
def rEqA(K:Fg)(neg:Bool):R2:=λx y H Q=>∃b,(∀{X:Cx}{pins:List (Addr×Obj)}{σ:St}{s:ag},Inv X pins σ H s->X.K=K->∀{u v:ab},RelV x u->RelV y v->∀A:aU,A.units+9<bN->SeqAt.RcAt A s u v b/\cQ A s u v (!b))/\Q (.bl (if neg then !b else b)) H
theorem eZ3{K:Fg}(hu:X.A.units+9<bN)(hK:X.K=K:=by rfl):OpR X (bU .Eq) (rEqA K false):=by
 intro pins s σ H x y v u Q I z j ⟨b,h,q⟩;exact(h I hK z j X.A hu).1 _ _ _ _ ⟨.bl b,H,I,rfl,q⟩
theorem eZ4{K:Fg}(hu:X.A.units+9<bN)(hK:X.K=K:=by rfl):OpR X (bU .NotEq) (rEqA K true):=by
 intro pins s σ H x y v u Q I z j ⟨b,h,q⟩;exact(h I hK z j X.A hu).2 _ _ _ _ ⟨.bl (!b),H,I,rfl,q⟩
theorem dJj{K:Fg}:OpD K (rEqA K neg) (eqD neg):=by
 intro F S H d e x y Q QD r hd he h c;have lists:∀{xs ys:List D},lsIs S d xs->lsIs S e ys->okEs 8 xs ys=true->QD (.bl (if neg then !decide (xs=ys) else decide (xs=ys))) S->rEqA K neg x y H Q:=by
  intro xs ys l1 Z o q;obtain⟨a,us,rfl,s1,Y⟩:=lsIs.sl r hd l1;obtain⟨a2,us2,rfl,s2,p2⟩:=lsIs.sl r he Z;refine⟨_,λ{X pins σ s} I j u v ru rv A B=>?_,c.bl r q⟩;subst j;cases ru;cases rv;exact eZ2 I s1 s2 Y p2 o B λq U z O o=>eq3 I 8 (by lia) q U z O o
 have plain:okE 9 d e=true->QD (.bl (if neg then !decide (d=e) else decide (d=e))) S->rEqA K neg x y H Q:=by
  intro o q;refine⟨_,λ{X pins σ s} I j u v ru rv A B=>?_,c.bl r q⟩;subst j
  have:=eq3 I 9 B hd he ru rv o
  exact⟨this.rc,this.ne⟩
 cases d with
 |ref a=>obtain⟨xs,ys,h1,h2,J,G⟩:=h;exact lists h1 h2 J G
 |lst xs =>
  cases e with
  |ref a=>obtain⟨ys,h2,J,G⟩:=h;exact lists rfl h2 J G
  |_=>exact plain h.1 h.2
 |_=>exact plain h.1 h.2
mutual
def plain:D->Bool
 |.non=>true
 |.bl _=>true
 |.int _=>true
 |.str _=>true
 |.tup xs=>aZ3 xs
 |_=>false
def aZ3:List D->Bool
 |[]=>true
 |x::xs=>plain x&&aZ3 xs
end
mutual
theorem cZo(I:Inv X pins σ H s):∀{d e:D}{v:V},plain d=true->plain e=true->RepV X.K M H d v->RepV X.K M H e v->d=e
 |.tup ds,e,v,p,p',h,h'=>by
  cases e with
  |tup es =>
   unfold RepV at h h';obtain⟨a,xs,rfl,t,l⟩:=h;obtain⟨b,ys,e1,j,z⟩:=h';cases e1
   have:=I.tuple_inj t.sq j.sq
   subst this;unfold plain at p p';rw[bJp I p p' l z]
  |lst _=>cases p'
  |ref _=>cases p'
  |ty _=>cases p'
  |_ =>
   unfold RepV at h h';obtain⟨a,xs,e1,_⟩:=h;rw[h'] at e1;cases e1
 |.non,e,v,p,p',h,h'=>by
  cases e <;> first|rfl|(cases p';done)|(unfold RepV at h h';rw[h] at h';cases h';done)|(unfold RepV at h h';obtain⟨a,xs,e1,_⟩:=h';rw[h] at e1;cases e1)
 |.bl _,e,v,p,p',h,h'=>by
  cases e <;> first|(cases p';done)|(unfold RepV at h h';rw[h] at h';cases h';done)|(unfold RepV at h h';rw[h] at h';cases h';rfl)|(unfold RepV at h h';obtain⟨a,xs,e1,_⟩:=h';rw[h] at e1;cases e1)
 |.int _,e,v,p,p',h,h'=>by
  cases e <;> first|(cases p';done)|(unfold RepV at h h';rw[h] at h';cases h';done)|(unfold RepV at h h';rw[h] at h';cases h';rfl)|(unfold RepV at h h';obtain⟨a,xs,e1,_⟩:=h';rw[h] at e1;cases e1)
 |.str _,e,v,p,p',h,h'=>by
  cases e <;> first|(cases p';done)|(unfold RepV at h h';rw[h] at h';cases h';done)|(unfold RepV at h h';rw[h] at h';cases h';rfl)|(unfold RepV at h h';obtain⟨a,xs,e1,_⟩:=h';rw[h] at e1;cases e1)
 |.ty _,e,v,p,p',h,h'=>by cases p
 |.ref _,e,v,p,p',h,h'=>by cases p
 |.lst _,e,v,p,p',h,h'=>by cases p
theorem bJp(I:Inv X pins σ H s):∀{ds es:List D}{vs:List V},aZ3 ds=true->aZ3 es=true->RepL X.K M H ds vs->RepL X.K M H es vs->ds=es
 |[],es,vs,p,z,l,j=>by
  have h1:=l.length;have h2:=j.length;rw[h1] at h2;exact(b7 h2.symm).symm
 |d::ds,[],vs,p,z,l,j=>by have h1:=l.length;have h2:=j.length;rw[h1] at h2;simp at h2
 |d::ds,e::es,vs,p,z,l,j=>by
  unfold RepL at l j;obtain⟨v,vs,rfl,r,l⟩:=l;obtain⟨J,B,e1,G,j⟩:=j;cases e1;simp only[aZ3,aV] at p z;rw[cZo I p.1 z.1 r G,bJp I p.2 z.2 l j]
end
theorem aJj:∀{ds:List D},aZ3 ds=true->∀d∈ds,plain d=true
 |[],_,d,h=>by cases h
 |x::ds,p,d,h=>by
  simp only[aZ3,aV] at p;rcases av.mp h with rfl|h
  ·exact p.1
  ·exact aJj p.2 d h
def rInA(K:Fg)(neg:Bool):R2:=λx y H Q=>∃p xs b,y=.ref p/\(SqL K H p xs\/SqT K H p xs) /\
 (∀{X:Cx}{pins:List (Addr×Obj)}{σ:St}{s:ag},Inv X pins σ H s->X.K=K->∀{v:ab}{us:List ab},RelV x v->Vals xs us->∀A:aU,A.units+9<bN->∃f:ab->Bool,(∀u∈us,cS A s u v (f u))/\us.any f=b)/\Q (.bl (if neg then !b else b)) H
theorem eZ5{K:Fg}(hu:X.A.units+10<bN)(hK:X.K=K:=by rfl):OpR X (bU .In) (rInA K false):=by
 intro pins s σ H x y v u Q I B ry h;obtain⟨p,xs,b,rfl,z,hf,q⟩:=h;cases ry;rw[<- hK] at z;rcases z with z|z
 ·obtain⟨j,r,pl,D⟩:=I.list z;obtain⟨f,f1,f2⟩:=hf I hK B r X.A.in1 (by lia)
  refine SeqAt.in_listAt f pl.isList (λw hw=>f1 w (by simpa using hw)) ⟨.bl _,H,I,rfl,?_⟩
  rw[show j.toArray.any f=j.any f by simp,f2]
  exact q
 ·obtain⟨j,r,pl,D⟩:=I.tuple z;obtain⟨f,f1,f2⟩:=hf I hK B r X.A.in1 (by lia)
  refine SeqAt.in_tupleAt f pl (λw hw=>f1 w (by simpa using hw)) ⟨.bl _,H,I,rfl,?_⟩
  rw[show j.toArray.any f=j.any f by simp,f2]
  exact q
theorem eJd{K:Fg}(hu:X.A.units+10<bN)(hK:X.K=K:=by rfl):OpR X (bU .NotIn) (rInA K true):=by
 intro pins s σ H x y v u Q I B ry h;obtain⟨p,xs,b,rfl,z,hf,q⟩:=h;cases ry;rw[<- hK] at z;rcases z with z|z
 ·obtain⟨j,r,pl,D⟩:=I.list z;obtain⟨f,f1,f2⟩:=hf I hK B r X.A.in1 (by lia)
  refine SeqAt.notIn_listAt f pl.isList (λw hw=>f1 w (by simpa using hw)) ⟨.bl _,H,I,rfl,?_⟩
  rw[show j.toArray.any f=j.any f by simp,f2]
  exact q
 ·obtain⟨j,r,pl,D⟩:=I.tuple z;obtain⟨f,f1,f2⟩:=hf I hK B r X.A.in1 (by lia)
  refine SeqAt.notIn_tupleAt f pl (λw hw=>f1 w (by simpa using hw)) ⟨.bl _,H,I,rfl,?_⟩
  rw[show j.toArray.any f=j.any f by simp,f2]
  exact q
def inD(neg:Bool):R2D:=λd e S Q=>∃xs,sqIs S e xs/\aZ3 xs=true/\(xs.all λy=>okE 8 y d)=true/\Q (.bl (if neg then !decide (d∈xs) else decide (d∈xs))) S
theorem fJ9(I:Inv X pins σ H s){d:D}{x:V}{v:ab}(rx:RelV x v)(hd:RepV X.K M H d x){A:aU}(hA:A.units+9<bN):∀{xs:List V}{us:List ab}{ds:List D},RepL X.K M H ds xs->Vals xs us->aZ3 ds=true->(ds.all λy=>okE 8 y d)=true ->
  ∃f:ab->Bool,(∀u∈us,cS A s u v (f u))/\us.any f=decide (d∈ds):=by
 classical
 intro xs us ds l r p o;have key:∀{y:V}{u:ab}{e:D},e∈ds->RepV X.K M H e y->RelV y u->decide (∃y e,e∈ds/\RepV X.K M H e y/\RelV y u/\e=d)=decide (e=d):=by
  intro y u e hm he j
  congr 1
  refine propext ⟨λ⟨y',e',G,h1,h2,Y⟩=>?_,λh=>⟨y,e,hm,he,j,h⟩⟩
  have:=h2.inj j
  subst this;rw[<- Y];exact cZo I (aJj p e hm) (aJj p e' G) he h1
 refine⟨λu=>decide (∃y e,e∈ds/\RepV X.K M H e y/\RelV y u/\e=d),?_,?_⟩
 ·intro u U;obtain⟨i,hi,rfl⟩:=bd U;have h1:=r.length;have h2:=l.length;obtain⟨e,Z,re⟩:=l.get' (af (show i<xs.length by lia))
  obtain⟨u',eu,j⟩:=r.get (af (show i<xs.length by lia))
  rw[af hi] at eu;cases eu;have hm:=am Z;show cS A s us[i] v (decide (∃y e,e∈ds/\RepV X.K M H e y/\RelV y us[i]/\e=d));rw[key hm re j];exact(eq3 I 8 (by lia) re hd j rx (bI.mp o e hm)).eq
 ·have gen:∀{zs:List V}{ws:List ab}{es:List D},RepL X.K M H es zs->Vals zs ws->(∀e∈es,e∈ds)->ws.any (λu=>decide (∃y e,e∈ds/\RepV X.K M H e y/\RelV y u/\e=d))=decide (d∈es):=by
   intro zs ws es
   induction es generalizing zs ws with
   |nil =>
    intro l r _;subst l;cases r;simp
   |cons e es O =>
    intro l r hm;obtain⟨z,zs,rfl,B,J⟩:=l;cases r with
    |cons q t =>
     rw[jI,key (hm e ai) B q,O J t λe he=>hm e (ak _ he)]
     by_cases h:e=d
     ·simp[h]
     ·have h':¬ d=e:=λz=>h z.symm;simp[h,h']
  exact gen l r λ_ h=>h
theorem eJe{K:Fg}:OpD K (rInA K neg) (inD neg):=by
 intro F S H d e x y Q QD r hd he ⟨ds,hs,p,o,q⟩ c;obtain⟨a,xs,rfl,sq,l⟩:=hs.sq r he;refine⟨a,xs,decide (d∈ds),rfl,sq,λ{X pins σ s} I B {v us} j z A D=>?_,c.bl r q⟩;subst B;exact fJ9 I j hd D l z p o
variable{K:Fg}{a b:Expr}{ta tb:ED}{pos:Pos}{k:Nat}
theorem lt10(r:Room k A)(h:n<=64:=by decide):A.units+n<bN:=by have:=r.units;lia
theorem e_eq(hr:Room k X.A)(ha:PD K X a ta)(hb:PD K X b tb)(hK:X.K=K:=by rfl):PD K X (.Compare a [.Eq] [b] pos) (dOp (eqD false) ta tb):=dQv (eZ3 (lt10 hr) hK) dJj ha hb (nomark _)
theorem e_ne(hr:Room k X.A)(ha:PD K X a ta)(hb:PD K X b tb)(hK:X.K=K:=by rfl):PD K X (.Compare a [.NotEq] [b] pos) (dOp (eqD true) ta tb):=dQv (eZ4 (lt10 hr) hK) dJj ha hb (nomark _)
theorem cJ1(hr:Room k X.A)(ha:PD K X a ta)(hb:PD K X b tb)(hK:X.K=K:=by rfl):PTD K X (.Compare a [.Eq] [b] pos) (aZj (dOp (eqD false) ta tb)):=aX2 (eZ3 (lt10 hr) hK) dJj ha hb (nomark _)
theorem dQx(hr:Room k X.A)(ha:PD K X a ta)(hb:PD K X b tb)(hK:X.K=K:=by rfl):PTD K X (.Compare a [.NotEq] [b] pos) (aZj (dOp (eqD true) ta tb)):=aX2 (eZ4 (lt10 hr) hK) dJj ha hb (nomark _)
theorem e_in(hr:Room k X.A)(ha:PD K X a ta)(hb:PD K X b tb)(hm:eP .In b=false:=by rfl)(hK:X.K=K:=by rfl):PD K X (.Compare a [.In] [b] pos) (dOp (inD false) ta tb):=dQv (eZ5 (lt10 hr) hK) eJe ha hb hm
theorem gZy(hr:Room k X.A)(ha:PD K X a ta)(hb:PD K X b tb)(hm:eP .In b=false:=by rfl)(hK:X.K=K:=by rfl):PTD K X (.Compare a [.In] [b] pos) (aZj (dOp (inD false) ta tb)):=aX2 (eZ5 (lt10 hr) hK) eJe ha hb hm
theorem cZp(hr:Room k X.A)(ha:PD K X a ta)(hb:PD K X b tb)(hm:eP .NotIn b=false:=by rfl)(hK:X.K=K:=by rfl):PTD K X (.Compare a [.NotIn] [b] pos) (aZj (dOp (inD true) ta tb)):=aX2 (eJd (lt10 hr) hK) eJe ha hb hm
end
end L2
namespace HT
open PySem PySem.Spec PyProof.Rows
section
variable{prog:ax}{w:aK}{A:aU}{E:ab->ag->Prop}{s:ag}
theorem tup_slice(ht:gE s.heap t items)(hTs:s.TypeIs (.ref sl) "slice")
    (h:∀ A,aE (aF prog w) A (gc (.ref sl) (pure items.size)) (λr s'=>s'=s /\
      ((r.1=0 /\ r.2.1=1 /\ r.2.2=items.size /\ Q (.ref t) s) \/
       (¬ (r.1==0&&r.2.1==1&&r.2.2==items.size)=true/\sizeOk (.seq ((a4 r.2.2).filterMap λ(k:Nat)=>items[(r.1+k*r.2.1).toNat]?).toArray)/\Q (.ref s.heap.objs.size) {s with heap:=s.heap.push {cls:=.type "tuple",data:=.seq ((a4 r.2.2).filterMap λ(k:Nat)=>items[(r.1+k*r.2.1).toNat]?).toArray}}))) E s) :
    aE (aF prog w) A (j4 (.ref t) (.ref sl)) Q E s:=by
  unfold j4
  try with_reducible refine bS ?_
  first|refine aa (ad ?_)|skip
  refine aa (wpAny_sequenceKey ht.typeIs (by decide) ?_)
  refine aa (cN ht.typeIs cJ
    (b9 cJ ht.typeIs entry_tuple_getitem ?_ (args_tuple_getitem _ _)))
  show aE _ _ (gf (.ref t)>>=_) _ _ s;refine aa (tupleItemsOf_ ht (aa (g8 hTs ?_)));rw [if_pos (by decide)]
  refine aa (dw (h _) (λr s' ⟨e,q⟩=>?_) λ_ _ x=>x);subst e;obtain⟨lo,st,n⟩:=r;show aE _ _ (if (lo==0&&st==1&&n==items.size)=true then _ else _) _ _ _
  rcases q with⟨h1,h2,B,q⟩|⟨z,j,q⟩
  · have J:lo=0:=h1
    have G:st=1:=h2;have D:n=items.size:=B;rw [if_pos (by rw [J,G,D]; simp)]
    refine aa (aa (g8 ht.typeIs (ad ?_)));rw [if_pos (by decide)]
    refine aa (dA ?_)
    first
      |exact ad ⟨_,rfl,ad q⟩
      |exact aa (ad ⟨_,rfl,ad q⟩)
      |exact aa (ad (ad ⟨_,rfl,ad q⟩))
  · rw [if_neg z]
    first
      |exact aa (bi (ad ⟨_,rfl,ad q⟩) j)
      |exact aa (bi (aa (ad (ad ⟨_,rfl,ad q⟩))) j)
      |exact aa (aa (bi (ad (ad ⟨_,rfl,ad q⟩)) j))
      |exact aa (aa (bi (ad ⟨_,rfl,ad q⟩) j))
end
end HT
namespace L2
open PySem PySem.Spec PyProof.Rows
section
variable{X:Cx}{K:Fg}
def rSlW(K:Fg):V->Option Int->Option Int->Hp->VK->Prop:=λx lo hi H Q=>∃a xs,x=.ref a/\SqT K H a xs/\HT.sIx xs.length 0 lo=0/\HT.sIx xs.length xs.length hi=xs.length/\Q (.ref a) H
theorem eJf(hK:X.K=K:=by rfl):SlR X (rSlW K):=by
 subst hK;intro pins s σ H x v Y U lo hi sl Q I rx hs pl pu h;obtain⟨a,xs,rfl,G,h0,J,q⟩:=h;cases rx;obtain⟨j,r,D,Z⟩:=I.tuple G;have hlen:j.toArray.size=xs.length:=by rw[ay];exact r.length.symm
 obtain⟨os,z,B,O⟩:=id hs;refine⟨"tuple",_,cJ.lookup,D.typeIs,HT.tup_slice D ⟨os,z,B⟩ λA=>HT.sliceApplied_gen hs pl pu ⟨rfl,.inl ⟨?_,rfl,?_,.ref a,H,I,rfl,q⟩⟩⟩
 ·rw[hlen,h0];rfl
 ·rw[hlen,h0,J];rfl
end
end L2
set_option maxHeartbeats 1000000
namespace L2
open PySem PySem.Spec PyProof.Rows
section
variable{X:Cx}{K:Fg}{a b:Expr}{ta tb:ED}{pos:Pos}{k:Nat}
def ltD:R2D:=λd e S Q=>match d,e with
 |.int i,.int j=>Q (.bl (decide (i<j))) S
 |.str x,.str y=>Q (.bl (HT.ltS x y)) S
 |.tup xs,.tup ys=>∃as bs,xs=as.map D.str/\ys=bs.map D.str/\Q (.bl (HT.lexS as bs)) S
 |_,_=>False
def rLtA(K:Fg):R2:=λx y H Q=>rI0 (λi j=>.bl (decide (i<j))) x y H Q\/(∃i j,x=.str i/\y=.str j/\Q (.bl (decide (i.cps.toList<j.cps.toList))) H)\/rLtS K x y H Q
theorem eZ6(hu:X.A.units<bN)(hK:X.K=K:=by rfl):OpR X (bU .Lt) (rLtA K):=op_lt.or (op_lt_str.or (eXw hu hK))
theorem aJk:∀{as:List Str}{xs:List V},RepL K M H (as.map D.str) xs->aZ (dS H) xs as
 |[],xs,h=>by rw[fJ] at h;subst h;exact .nil
 |a::as,xs,h=>by
  rw[aL] at h;obtain⟨v,vs,rfl,r,l⟩:=h;exact .cons r (aJk l)
theorem dQy:∀{as:List Str}{xs:List V},aZ (dS H) xs as->RepL K M H (as.map D.str) xs
 |_,_,.nil=>RepL.nil
 |_,_,.cons r l=>RepL.cons (r) (dQy l)
theorem cQp(h:RepV K (mt S F) H (.tup (as.map D.str)) v):dT K dS H v as:=by
 obtain⟨a,xs,rfl,t,l⟩:=tup.st h;exact⟨a,xs,rfl,t,aJk l⟩
theorem fJa:OpD K (rLtA K) ltD:=by
 intro F S H d e x y Q QD r hd he h c;cases d with
 |int i =>
  cases e with
  |int j=>rw[rint hd,rint he];exact .inl ⟨i,j,rfl,rfl,c.bl r h⟩
  |_=>exact h.elim
 |str i =>
  cases e with
  |str j=>rw[rstr hd,rstr he];exact .inr (.inl ⟨i,j,rfl,rfl,c.bl r h⟩)
  |_=>exact h.elim
 |tup xs =>
  cases e with
  |tup ys =>
   obtain⟨as,bs,rfl,rfl,q⟩:=h;exact .inr (.inr ⟨as,bs,cQp hd,cQp he,c.bl r q⟩)
  |_=>exact h.elim
 |_=>exact h.elim
theorem e_lt(hr:Room k X.A)(ha:PD K X a ta)(hb:PD K X b tb)(hK:X.K=K:=by rfl):PD K X (.Compare a [.Lt] [b] pos) (dOp ltD ta tb):=dQv (eZ6 hr.units0 hK) fJa ha hb (nomark _)
theorem bXf(hr:Room k X.A)(ha:PD K X a ta)(hb:PD K X b tb)(hK:X.K=K:=by rfl):PTD K X (.Compare a [.Lt] [b] pos) (aZj (dOp ltD ta tb)):=aX2 (eZ6 hr.units0 hK) fJa ha hb (nomark _)
abbrev leD:R2D:=iiD0 λi j=>.bl (decide (i<=j))
abbrev gtD:R2D:=iiD0 λi j=>.bl (decide (j<i))
abbrev geD:R2D:=iiD0 λi j=>.bl (decide (j<=i))
theorem e_le(hr:Room k X.A)(ha:PD K X a ta)(hb:PD K X b tb):PD K X (.Compare a [.LtE] [b] pos) (dOp leD ta tb):=dQv eX3 cJ0 ha hb (nomark _)
theorem gZz(hr:Room k X.A)(ha:PD K X a ta)(hb:PD K X b tb):PTD K X (.Compare a [.LtE] [b] pos) (aZj (dOp leD ta tb)):=aX2 eX3 cJ0 ha hb (nomark _)
theorem eJg(hr:Room k X.A)(ha:PD K X a ta)(hb:PD K X b tb):PTD K X (.Compare a [.Gt] [b] pos) (aZj (dOp gtD ta tb)):=aX2 gZl cJ0 ha hb (nomark _)
theorem eJh(hr:Room k X.A)(ha:PD K X a ta)(hb:PD K X b tb):PTD K X (.Compare a [.GtE] [b] pos) (aZj (dOp geD ta tb)):=aX2 gZm cJ0 ha hb (nomark _)
def dQz:D->Bool
 |.non=>true
 |_=>false
def isD(neg:Bool):R2D:=λd e S Q=>match d,e with
 |.bl x,.bl y=>Q (.bl (if neg then x !=y else x==y)) S
 |d,.non=>Q (.bl (if neg then !dQz d else dQz d)) S
 |_,_=>False
def rIsA(neg:Bool):R2:=λx y H Q=>(∃i j,x=.bl i/\y=.bl j/\Q (.bl (if neg then i !=j else i==j)) H)\/(y=.non/\Q (.bl (if neg then !decide (x=.non) else decide (x=.non))) H)
theorem fJb:OpR X (bU .Is) (rIsA false):=OpR.or (by
 intro pins s σ H x y v u Q I rx ry h;obtain⟨i,j,rfl,rfl,q⟩:=h;cases rx;cases ry;exact is_bool ⟨.bl _,H,I,rfl,q⟩) fZx
theorem dJk:OpR X (bU .IsNot) (rIsA true):=OpR.or (by
 intro pins s σ H x y v u Q I rx ry h;obtain⟨i,j,rfl,rfl,q⟩:=h;cases rx;cases ry;exact isnot_bool ⟨.bl _,H,I,rfl,q⟩) eX4
theorem dJl(h:RepV K M H d x):decide (x=.non)=dQz d:=by
 cases d <;> unfold RepV at h <;> first|(rw[h];rfl)|(obtain⟨a,xs,rfl,_⟩:=h;rfl)|skip
theorem fJc:OpD K (rIsA neg) (isD neg):=by
 intro F S H d e x y Q QD r hd he h c;have non:e=.non->QD (.bl (if neg then !dQz d else dQz d)) S->rIsA neg x y H Q:=by
  rintro rfl q;rw[rnon he];refine .inr ⟨rfl,?_⟩;rw[dJl hd];exact c.bl r q
 cases e with
 |non=>exact non rfl (by cases d <;> exact h)
 |bl j =>
  cases d with
  |bl i=>rw[rbl hd,rbl he];exact .inl ⟨i,j,rfl,rfl,c.bl r h⟩
  |_=>exact h.elim
 |_=>cases d <;> exact h.elim
theorem fJd(hr:Room k X.A)(ha:PD K X a ta)(hb:PD K X b tb):PTD K X (.Compare a [.Is] [b] pos) (aZj (dOp (isD false) ta tb)):=aX2 fJb fJc ha hb (nomark _)
theorem cQq(hr:Room k X.A)(ha:PD K X a ta)(hb:PD K X b tb):PTD K X (.Compare a [.IsNot] [b] pos) (aZj (dOp (isD true) ta tb)):=aX2 dJk fJc ha hb (nomark _)
def gX0(ta tb:ED):ED:=fun Γ S Q=>ta Γ S λx S1=>∃c,x=.bl c/\if c=true then tb Γ S1 Q else Q (.bl false) S1
def dOrV(ta tb:ED):ED:=fun Γ S Q=>ta Γ S λx S1=>∃c,x=.bl c/\if c=true then Q (.bl true) S1 else tb Γ S1 Q
theorem fJe(h:PD K X a ta):PD K X (.BoolOp op [a] pos) ta:=⟨fZm h.o⟩
theorem gX1(ha:PD K X a ta)(hb:PD K X (.BoolOp .And (b::rest) pos) tb):PD K X (.BoolOp .And (a::b::rest) pos) (gX0 ta tb):=.of (fZn ha.o hb.o) fun σ H Q J=>J.el λF S Γ QD r g q c =>
 ⟨F,S,Γ,_,r,g,q,λv d H1 Y j B v1 G=>by
  obtain⟨z,e,D⟩:=G;subst e;refine⟨z,rbl v1,?_⟩;cases z with
  |true=>exact⟨F,Y,Γ,QD,B,g.ext j,D,λv z Z U O=>c v z Z U (j.trans O)⟩
  |false=>exact(Cn.shift c j).bl B D⟩
theorem e_or(ha:PD K X a ta)(hb:PD K X (.BoolOp .Or (b::rest) pos) tb):PD K X (.BoolOp .Or (a::b::rest) pos) (dOrV ta tb):=.of (gZd ha.o hb.o) fun σ H Q J=>J.el λF S Γ QD r g q c =>
 ⟨F,S,Γ,_,r,g,q,λv d H1 Y j B v1 G=>by
  obtain⟨z,e,D⟩:=G;subst e;refine⟨z,rbl v1,?_⟩;cases z with
  |false=>exact⟨F,Y,Γ,QD,B,g.ext j,D,λv z Z U O=>c v z Z U (j.trans O)⟩
  |true=>exact(Cn.shift c j).bl B D⟩
structure PWD(K:Fg)(X:Cx)(e:Expr)(t:TD):Prop where
 o:PW X e (upT K t)
def dAnd(t u:TD):TD:=fun Γ S Q=>t Γ S λc S1=>if c=true then u Γ S1 Q else Q false S1
def dOr(t u:TD):TD:=fun Γ S Q=>t Γ S λc S1=>if c=true then Q true S1 else u Γ S1 Q
def dNot(t:TD):TD:=fun Γ S Q=>t Γ S λc S1=>Q (!c) S1
section
variable{tA tB':TD}{rest:List Expr}
theorem PWD.pt(h:PWD K X e t):PTD K X e t:=⟨PW.pt h.o⟩
theorem PWD.of(h:PW X e te)(i:∀σ H Q,upT K t σ H Q->te σ H Q):PWD K X e t:=⟨λj pins s σ H Q I q=>h j pins s σ H Q I (i σ H Q q)⟩
theorem aJl(ha:PTD K X a tA):PWD K X (.BoolOp .And [a] pos) tA:=⟨eZy ha.o⟩
theorem dZ0(ha:PTD K X a tA):PWD K X (.BoolOp .Or [a] pos) tA:=⟨fZj ha.o⟩
theorem bQl(ha:PTD K X a tA)(hb:PWD K X (.BoolOp .And (b::rest) pos) tB'):PWD K X (.BoolOp .And (a::b::rest) pos) (dAnd tA tB'):=.of (fZk ha.o hb.o) fun σ H Q G=>G.el λF S Γ QD r g q c =>
 ⟨F,S,Γ,_,r,g,q,λz H1 U j B D=>by
  cases z with
  |true=>exact⟨F,U,Γ,QD,B,g.ext j,D,λz Y O J=>c z Y O (j.trans J)⟩
  |false=>exact c _ _ _ j B D⟩
theorem dJm(ha:PTD K X a tA)(hb:PWD K X (.BoolOp .Or (b::rest) pos) tB'):PWD K X (.BoolOp .Or (a::b::rest) pos) (dOr tA tB'):=.of (gZb ha.o hb.o) fun σ H Q G=>G.el λF S Γ QD r g q c =>
 ⟨F,S,Γ,_,r,g,q,λz H1 U j B D=>by
  cases z with
  |false=>exact⟨F,U,Γ,QD,B,g.ext j,D,λz Y O J=>c z Y O (j.trans J)⟩
  |true=>exact c _ _ _ j B D⟩
theorem bZr(ha:PTD K X a tA):PTD K X (.UnaryOp .Not a pos) (dNot tA):=.of (fZl ha.o) fun σ H Q j=>j.el λF S Γ QD r g q c=>⟨F,S,Γ,_,r,g,q,λz H1 J B D G=>c _ _ _ B D G⟩
def dIf(t:TD)(ta tb:ED):ED:=fun Γ S Q=>t Γ S λc S1=>if c=true then ta Γ S1 Q else tb Γ S1 Q
theorem bXg(hc:PTD K X c tA)(ha:PD K X a ta)(hb:PD K X b tb):PD K X (.IfExp c a b pos) (dIf tA ta tb):=.of (dXw hc.o ha.o hb.o) fun σ H Q Y=>Y.el λF S Γ QD r g q c =>
 ⟨F,S,Γ,_,r,g,q,λz H1 U j J O=>by
  cases z with
  |true=>exact⟨F,U,Γ,QD,J,g.ext j,O,λv z G D B=>c v z G D (j.trans B)⟩
  |false=>exact⟨F,U,Γ,QD,J,g.ext j,O,λv z G D B=>c v z G D (j.trans B)⟩⟩
end
def truD(S:Sto)(d:D)(k:Bool->Prop):Prop:=match d with
 |.non=>k false
 |.bl b=>k b
 |.int i=>k (i !=0)
 |.str x=>x.length<=sizeLine/\k ((x.length:Int) !=0)
 |.tup xs=>k (!xs.isEmpty)
 |.lst xs=>k (!xs.isEmpty)
 |.ref a=>∃xs,S a=some (.lst xs)/\k (!xs.isEmpty)
 |.ty _=>False
def dTru(ta:ED):TD:=fun Γ S Q=>ta Γ S λd S1=>truD S1 d λb=>Q b S1
theorem dZ1(l:RepL K M H ds xs):(!xs.isEmpty)=!ds.isEmpty:=by
 have:=l.length
 cases ds <;> cases xs <;> first|rfl|simp at this
theorem aJ4(ha:PD K X a ta)(he:∀whole,isTrue a X.env whole=(do let v <- whole;gk a.pos;jt [v] (truthy v)):=by intro _;rfl)(hK:X.K=K:=by rfl):PTD K X a (dTru ta):=.of (dQm ha.o he hK) fun σ H Q G=>G.el λF S Γ QD r g q c =>
 ⟨F,S,Γ,_,r,g,q,λv d H1 D B z v1 j=>by
  cases d with
  |non=>rw[rnon v1];exact⟨false,rfl,c _ _ _ B z j⟩
  |bl b=>rw[rbl v1];exact⟨b,rfl,c _ _ _ B z j⟩
  |int b=>rw[rint v1];exact⟨_,rfl,c _ _ _ B z j⟩
  |str b=>rw[rstr v1];exact⟨_,⟨j.1,rfl⟩,c _ _ _ B z j.2⟩
  |ty b=>exact j.elim
  |tup xs =>
   obtain⟨p,us,rfl,t,l⟩:=tup.st v1;exact⟨_,.inr (.inl ⟨us,t,rfl⟩),c _ _ _ B z (by rw[dZ1 l];exact j)⟩
  |lst xs =>
   obtain⟨p,us,rfl,t,l⟩:=lsIs.sl z v1 (rfl)
   exact⟨_,.inl ⟨us,t,rfl⟩,c _ _ _ B z (by rw[dZ1 l];exact j)⟩
  |ref p =>
   obtain⟨xs,e,j⟩:=j;obtain⟨p,us,rfl,t,l⟩:=lsIs.sl z v1 (e)
   exact⟨_,.inl ⟨us,t,rfl⟩,c _ _ _ B z (by rw[dZ1 l];exact j)⟩⟩
section
variable{e:Expr}{t:AD}{p:Pos}
def lenD:RCD:=λds S Q=>match ds with
 |[.str x]=>x.length<=sizeLine/\Q (.int x.length) S
 |[d]=>∃xs,sqIs S d xs/\Q (.int xs.length) S
 |_=>False
theorem dZ2(hK:X.K=K:=by rfl):CallR X (.builtin "len") (λxs H Q=>∃x n,xs=[x]/\LenV K x H n/\Q (.int n) H):=hK▸dJ0
theorem fJf:bXd K (λxs H Q=>∃x n,xs=[x]/\LenV K x H n/\Q (.int n) H) lenD:=by
 intro F S H ds vs Q QD r l h c
 match ds,h with
 |[d],h =>
  obtain⟨v,rfl,j⟩:=l.one;have seq:(∃xs,sqIs S d xs/\QD (.int xs.length) S)->∃x n,[v]=[x]/\LenV K x H n/\Q (.int n) H:=by
   rintro⟨xs,h1,q⟩;obtain⟨a,us,rfl,sq,l⟩:=h1.sq r j;refine⟨_,xs.length,rfl,?_,c.int r q⟩;rcases sq with sq|sq
   ·exact .inl ⟨us,sq,l.length.symm⟩
   ·exact .inr ⟨us,sq,l.length.symm⟩
  cases d with
  |str x=>rw[rstr j];exact⟨_,x.length,rfl,⟨h.1,rfl⟩,c.int r h.2⟩
  |_=>exact seq h
 |[],h=>exact h.elim
 |d::_::_,h=>cases d <;> exact h.elim
theorem bQ0(hg:Gl X "len")(hm:X.mg "len"=none)(ha:PAD K X [e] t)(hK:X.K=K:=by rfl)(he:aD [e] X.env=(false,eval e X.env)::aD [] X.env:=by rfl)(hpl:(cM pos (aD [] X.env)).any (·.1)=false:=by rfl):PD K X (.Call (.Name "len" p) [e] [] pos) (dCB lenD t):=aXu (dZ2 hK) fJf hg hm cJy ha (by decide) (by decide) he hpl
def tupD:RCD:=λds S Q=>match ds with
 |[d]=>∃xs,sqIs S d xs/\Q (.tup xs) S
 |_=>False
theorem fJg:bXd K (λxs H Q=>∃p ys,xs=[.ref p]/\((SqL K H p ys/\∀l,H l=none->Q (.ref l) (upd H l (.tup ys)))\/(SqT K H p ys/\Q (.ref p) H))) tupD:=by
 intro F S H ds vs Q QD r l h c
 match ds,h with
 |[d],⟨xs,h1,q⟩ =>
  obtain⟨v,rfl,j⟩:=l.one;cases d with
  |tup ys =>
   cases h1;obtain⟨a,us,rfl,sq,l⟩:=tup.st j;exact⟨a,us,rfl,.inr ⟨sq,c.here r j q⟩⟩
  |lst ys =>
   obtain⟨a,us,rfl,sq,l⟩:=lsIs.sl r j (h1)
   exact⟨a,us,rfl,.inl ⟨sq,λp z=>c.tup r z l q⟩⟩
  |ref y =>
   obtain⟨a,us,rfl,sq,l⟩:=lsIs.sl r j (h1)
   exact⟨a,us,rfl,.inl ⟨sq,λp z=>c.tup r z l q⟩⟩
  |_=>exact h1.elim
theorem aZc(hg:Gl X "tuple")(hm:X.mg "tuple"=none)(ha:PAD K X [e] t)(hK:X.K=K:=by rfl)(he:aD [e] X.env=(false,eval e X.env)::aD [] X.env:=by rfl)(hpl:(cM pos (aD [] X.env)).any (·.1)=false:=by rfl):PD K X (.Call (.Name "tuple" p) [e] [] pos) (dCB tupD t):=bXe (cQh hK) fJg hg hm cZ9 ha (by decide) (by decide) he hpl
def lstD(b:Bool):RCD:=λds S Q=>match ds with
 |[d]=>∃xs,sqIs S d xs/\newL b xs S Q
 |_=>False
theorem fJh{b:Bool}:bXd K (λxs H Q=>∃p ys,xs=[.ref p]/\(SqL K H p ys\/SqT K H p ys)/\∀l,H l=none->Q (.ref l) (upd H l (.lst ys))) (lstD b):=by
 intro F S H ds vs Q QD r l h c
 match ds,h with
 |[d],⟨xs,h1,q⟩ =>
  obtain⟨v,rfl,j⟩:=l.one;obtain⟨a,us,rfl,sq,l⟩:=h1.sq r j;exact⟨a,us,rfl,sq,λp z=>c.new r z l q⟩
theorem fJi{b:Bool}(hg:Gl X "list")(hm:X.mg "list"=none)(ha:PAD K X [e] t)(hK:X.K=K:=by rfl)(he:aD [e] X.env=(false,eval e X.env)::aD [] X.env:=by rfl)(hpl:(cM pos (aD [] X.env)).any (·.1)=false:=by rfl):PD K X (.Call (.Name "list" p) [e] [] pos) (dCB (lstD b) t):=bXe (cXy hK) fJh hg hm eXj ha (by decide) (by decide) he hpl
def i2D(g:Int->Int->Int):RCD:=λds S Q=>match ds with
 |[.int i,.int j]=>Q (.int (g i j)) S
 |_=>False
theorem fJj:bXd K (λxs H Q=>∃i j,xs=[.int i,.int j]/\Q (.int (g i j)) H) (i2D g):=by
 intro F S H ds vs Q QD r l h c
 match ds,h with
 |[.int i,.int j],h =>
  obtain⟨v,w,rfl,B,z⟩:=l.two;rw[rint B,rint z];exact⟨i,j,rfl,c.int r h⟩
theorem gX2{e2:Expr}(hg:Gl X "min")(hm:X.mg "min"=none)(ha:PAD K X [e,e2] t)(hc:X.calm=true:=by rfl)(he:aD [e,e2] X.env=(false,eval e X.env)::aD [e2] X.env:=by rfl)(hpl:(cM pos (aD [e2] X.env)).any (·.1)=false:=by rfl):PD K X (.Call (.Name "min" p) [e,e2] [] pos) (dCB (i2D λi j=>if j<i then j else i) t):=aXu (cJp hc) fJj hg hm fXb ha (by decide) (by decide) he hpl
theorem gX3{e2:Expr}(hg:Gl X "max")(hm:X.mg "max"=none)(ha:PAD K X [e,e2] t)(hc:X.calm=true:=by rfl)(he:aD [e,e2] X.env=(false,eval e X.env)::aD [e2] X.env:=by rfl)(hpl:(cM pos (aD [e2] X.env)).any (·.1)=false:=by rfl):PD K X (.Call (.Name "max" p) [e,e2] [] pos) (dCB (i2D λi j=>if j>i then j else i) t):=aXu (cJo hc) fJj hg hm fXc ha (by decide) (by decide) he hpl
theorem cZq:∀{bs:List Bool}{xs:List V},RepL K M H (bs.map D.bl) xs->aZ (dB H) xs bs
 |[],xs,h=>by rw[fJ] at h;subst h;exact .nil
 |a::as,xs,h=>by
  rw[aL] at h;obtain⟨v,vs,rfl,r,l⟩:=h;exact .cons r (cZq l)
def quD(g:List Bool->Bool):RCD:=λds S Q=>match ds with
 |[d]=>∃bs,lsIs S d (bs.map D.bl)/\Q (.bl (g bs)) S
 |_=>False
theorem fJk:bXd K (λxs H Q=>∃x bs,xs=[x]/\dL K dB H x bs/\Q (.bl (g bs)) H) (quD g):=by
 intro F S H ds vs Q QD r l h c
 match ds,h with
 |[d],⟨bs,h1,q⟩ =>
  obtain⟨v,rfl,j⟩:=l.one;obtain⟨a,us,rfl,sq,l⟩:=lsIs.sl r j h1;exact⟨_,bs,rfl,⟨a,us,rfl,sq,cZq l⟩,c.bl r q⟩
theorem fJl(hg:Gl X "all")(hm:X.mg "all"=none)(ha:PAD K X [e] t)(hK:X.K=K:=by rfl)(hc:X.calm=true:=by rfl)(he:aD [e] X.env=(false,eval e X.env)::aD [] X.env:=by rfl)(hpl:(cM pos (aD [] X.env)).any (·.1)=false:=by rfl):PD K X (.Call (.Name "all" p) [e] [] pos) (dCB (quD λbs=>bs.all id) t):=aXu (dQk hK hc) fJk hg hm fXd ha (by decide) (by decide) he hpl
theorem gX4(hg:Gl X "any")(hm:X.mg "any"=none)(ha:PAD K X [e] t)(hK:X.K=K:=by rfl)(hc:X.calm=true:=by rfl)(he:aD [e] X.env=(false,eval e X.env)::aD [] X.env:=by rfl)(hpl:(cM pos (aD [] X.env)).any (·.1)=false:=by rfl):PD K X (.Call (.Name "any" p) [e] [] pos) (dCB (quD λbs=>bs.any id) t):=aXu (dQl hK hc) fJk hg hm fXe ha (by decide) (by decide) he hpl
end
def ixD:R2D:=λd e S Q=>match d,e with
 |.str z,.int i=>z.length<=sizeLine/\∃c,atI z.cps.toList i=some c/\Q (.str ⟨#[c]⟩) S
 |d,.int i=>∃xs v,sqIs S d xs/\atI xs i=some v/\Q v S
 |_,_=>False
theorem gX5(l:RepL K M H ds xs){i:Int}{d:D}(h:atI ds i=some d):∃v,atI xs i=some v/\RepV K M H d v:=by
 unfold atI at h ⊢;rw[l.length];cases hi:ixN ds.length i with
 |none=>rw[hi] at h;cases h
 |some j=>rw[hi] at h;exact l.get h
theorem gX6:OpD K (rIx K) ixD:=by
 intro F S H d e x y Q QD r hd he h c;have seq:∀i,e=.int i->(∃xs v,sqIs S d xs/\atI xs i=some v/\QD v S)->rIx K x y H Q:=by
  rintro i rfl ⟨xs,v,h1,h2,q⟩;obtain⟨a,us,rfl,sq,l⟩:=h1.sq r hd;obtain⟨u,B,j⟩:=gX5 l h2;rw[rint he];rcases sq with sq|sq
  ·exact .inl ⟨a,us,i,u,rfl,rfl,sq,B,c.here r j q⟩
  ·exact .inr (.inl ⟨a,us,i,u,rfl,rfl,sq,B,c.here r j q⟩)
 cases e with
 |int i =>
  cases d with
  |str z =>
   obtain⟨h1,w,h2,q⟩:=h;rw[rstr hd,rint he];exact .inr (.inr ⟨z,i,w,rfl,rfl,h1,h2,c.str r q⟩)
  |_=>exact seq i rfl h
 |_=>cases d <;> exact h.elim
theorem eJi(hK:X.K=K:=by rfl):IxR X (rIx K):=hK▸fX8
theorem e_ix(ha:PD K X a ta)(hb:PD K X b tb)(hs:PlainIx b:=by exact λ_ _=>rfl)(hK:X.K=K:=by rfl):PD K X (.Subscript a b pos) (dOp ixD ta tb):=.of (pe_ix (eJi hK) ha.o hb.o hs) (dJh gX6)
abbrev OD:=Gm->Sto->(Option Int->Sto->Prop)->Prop
def upO(K:Fg)(t:OD):TO:=fun σ H Q=>∃F S Γ QD,Rp K F S H/\RepG K (mt S F) H Γ σ/\t Γ S QD/\∀o H' S',Ext S H S' H'->Rp K F S' H'->QD o S'->Q o H'
theorem upO.el{p:Prop}(h:upO K t σ H Q)(k:∀F S Γ QD,Rp K F S H->RepG K (mt S F) H Γ σ->t Γ S QD->(∀o H' S',Ext S H S' H'->Rp K F S' H'->QD o S'->Q o H')->p):p:=by
 obtain⟨F,S,Γ,QD,h0,h1,h2,j⟩:=h;exact k F S Γ QD h0 h1 h2 j
structure POD(K:Fg)(X:Cx)(e:Option Expr)(t:OD):Prop where
 o:PO X e (upO K t)
def eJj:OD:=λ_ S Q=>Q none S
def gX7(t:ED):OD:=fun Γ S Q=>t Γ S λd S1=>∃i,d=.int i/\Q (some i) S1
theorem aJm:POD K X none eJj:=⟨λpins s σ H Q I j=>j.el λF S Γ QD r g q c=>eXa pins s σ H Q I (c none H S (Ext.refl _ _) r q)⟩
theorem aJn(h:PD K X a ta):POD K X (some a) (gX7 ta):=⟨λpins s σ H Q I z=>z.el λF S Γ QD r g q c=>eXb h.o pins s σ H Q I ⟨F,S,Γ,_,r,g,q,λv d H1 J B D v1 j=>by
 obtain⟨i,e,G⟩:=j;subst e;exact⟨i,rint v1,c _ _ _ B D G⟩⟩⟩
def cutD(xs:List D)(lo hi:Option Int):List D:=(xs.drop (HT.sIx xs.length 0 lo)).take (HT.sIx xs.length xs.length hi-HT.sIx xs.length 0 lo)
def slD(b:Bool)(d:D)(lo hi:Option Int)(S:Sto)(Q:DK):Prop:=match d with
 |.str z=>z.length<=1000000/\Q (.str (cutS z lo hi)) S
 |.tup xs=>Q (.tup (cutD xs lo hi)) S
 |d=>∃xs,lsIs S d xs/\newL b (cutD xs lo hi) S Q
def rSlA(K:Fg):V->Option Int->Option Int->Hp->VK->Prop:=λx lo hi H Q=>rSlS x lo hi H Q\/rSlT K x lo hi H Q\/rSlW K x lo hi H Q\/rSlL K x lo hi H Q
theorem sl_A(hK:X.K=K:=by rfl):SlR X (rSlA K):=sl_str.or ((eXv hK).or ((eJf hK).or (dJb hK)))
theorem dJn(xs:List D){lo hi:Option Int}(h0:HT.sIx xs.length 0 lo=0)(h1:HT.sIx xs.length xs.length hi=xs.length):cutD xs lo hi=xs:=by unfold cutD;rw[h0,h1];simp
theorem eZ7(l:RepL K M H ds xs)(lo hi:Option Int):RepL K M H (cutD ds lo hi) (cutV xs lo hi):=by
 unfold cutD cutV;rw[l.length];exact(l.drop _).take _
theorem sd_A{b:Bool}:∀F S H d x lo hi Q QD,Rp K F S H->RepV K (mt S F) H d x->slD b d lo hi S QD->Cn K F S H QD Q->rSlA K x lo hi H Q:=by
 intro F S H d x lo hi Q QD r hd h c;have lists:(∃xs,lsIs S d xs/\newL b (cutD xs lo hi) S QD)->rSlA K x lo hi H Q:=by
  rintro⟨xs,D,q⟩;obtain⟨a,us,rfl,s1,j⟩:=lsIs.sl r hd D;exact .inr (.inr (.inr ⟨a,us,rfl,s1,λp B=>c.new r B (eZ7 j lo hi) q⟩))
 cases d with
 |str z=>rw[rstr hd];exact .inl ⟨z,rfl,h.1,c.str r h.2⟩
 |tup xs =>
  obtain⟨a,us,rfl,s1,j⟩:=tup.st hd
  by_cases hw:HT.sIx us.length 0 lo=0/\HT.sIx us.length us.length hi=us.length
  ·refine .inr (.inr (.inl ⟨a,us,rfl,s1,hw.1,hw.2,c.here r hd ?_⟩));rw[j.length] at hw;have h':QD (.tup (cutD xs lo hi)) S:=h;rwa [dJn xs hw.1 hw.2] at h'
  ·exact .inr (.inl ⟨a,us,rfl,s1,hw,λp B=>c.tup r B (eZ7 j lo hi) h⟩)
 |_=>exact lists h
def dSl(b:Bool)(te:ED)(tl th:OD):ED:=fun Γ S Q=>te Γ S λd S1=>tl Γ S1 λlo S2=>th Γ S2 λhi S3=>slD b d lo hi S3 Q
theorem e_sl{b:Bool}{lo hi:Option Expr}(he:PD K X e te)(hl:POD K X lo tl)(hu:POD K X hi th)(hK:X.K=K:=by rfl):PD K X (.Subscript e (.Slice lo hi none p2) pos) (dSl b te tl th):=.of (dJ2 (sl_A hK) he.o hl.o hu.o) fun σ H Q D=>D.el λF S Γ QD r g q c =>
 ⟨F,S,Γ,_,r,g,q,λv d H1 S1 z O v1 Z=>⟨F,S1,Γ,_,O,g.ext z,Z,λl H2 S2 j J Y=>⟨F,S2,Γ,_,J,g.ext (z.trans j),Y,λu H3 S3 B G U=>sd_A F S3 H3 d v l u Q QD G (v1.ext (j.trans B)) U (Cn.shift c (z.trans (j.trans B)))⟩⟩⟩
end
end L2
set_option maxHeartbeats 4000000
namespace L2
open PySem PySem.Spec PyProof.Rows
section
variable{X:Cx}{K:Fg}{a b:Expr}{ta tb:ED}{pos:Pos}{k:Nat}
abbrev GD:=D->Gm->Sto->(Gm->Sto->Prop)->Prop
abbrev GsD:=List D->Gm->Sto->(Gm->Sto->Prop)->Prop
def upG(K:Fg)(t:GD):TG:=λv σ H Q=>∃F S Γ d QD,Rp K F S H/\RepG K (mt S F) H Γ σ/\RepV K (mt S F) H d v/\t d Γ S QD/\∀Γ' S' σ' H',Ext S H S' H'->Rp K F S' H'->RepG K (mt S' F) H' Γ' σ'->QD Γ' S'->Q σ' H'
theorem upG.el{p:Prop}(h:upG K t v σ H Q)(k:∀F S Γ d QD,Rp K F S H->RepG K (mt S F) H Γ σ->RepV K (mt S F) H d v->t d Γ S QD->(∀Γ' S' σ' H',Ext S H S' H'->Rp K F S' H'->RepG K (mt S' F) H' Γ' σ'->QD Γ' S'->Q σ' H')->p):p:=by
 obtain⟨F,S,Γ,d,QD,h0,h1,h2,z,j⟩:=h;exact k F S Γ d QD h0 h1 h2 z j
def upGs(K:Fg)(t:GsD):TGs:=λvs σ H Q=>∃F S Γ ds QD,Rp K F S H/\RepG K (mt S F) H Γ σ/\RepL K (mt S F) H ds vs/\t ds Γ S QD/\∀Γ' S' σ' H',Ext S H S' H'->Rp K F S' H'->RepG K (mt S' F) H' Γ' σ'->QD Γ' S'->Q σ' H'
theorem upGs.el{p:Prop}(h:upGs K t vs σ H Q)(k:∀F S Γ ds QD,Rp K F S H->RepG K (mt S F) H Γ σ->RepL K (mt S F) H ds vs->t ds Γ S QD->(∀Γ' S' σ' H',Ext S H S' H'->Rp K F S' H'->RepG K (mt S' F) H' Γ' σ'->QD Γ' S'->Q σ' H')->p):p:=by
 obtain⟨F,S,Γ,ds,QD,h0,h1,h2,z,j⟩:=h;exact k F S Γ ds QD h0 h1 h2 z j
structure PGD(K:Fg)(X:Cx)(e:Expr)(t:GD):Prop where
 o:PG X e (upG K t)
structure PGsD(K:Fg)(X:Cx)(es:List Expr)(t:GsD):Prop where
 o:PGs X es (upGs K t)
theorem PGD.of(h:PG X e te)(i:∀v σ H Q,upG K t v σ H Q->te v σ H Q):PGD K X e t:=⟨λpins s σ H v u Q I r q=>h pins s σ H v u Q I r (i v σ H Q q)⟩
theorem PGsD.of(h:PGs X e te)(i:∀v σ H Q,upGs K t v σ H Q->te v σ H Q):PGsD K X e t:=⟨λpins s σ H v u Q I r q=>h pins s σ H v u Q I r (i v σ H Q q)⟩
def aQx(i:Nat):GD:=λd Γ S Q=>Q (Γ.set i (some d)) S
theorem aQv(hN:X.N.Nodup)(hi:X.N[i]?=some x)(hx:Loc X.env.scope x)(hf:X.fn x=true\/X.env.scope.names.lookup x=some .local:=by first|exact .inl rfl|exact .inr rfl|assumption):PGD K X (.Name x pos) (aQx i) :=
 .of (aQa hN hi hx hf) λv σ H Q j=>j.el λF S Γ d QD r g z q c=>c _ S _ H (Ext.refl _ _) r (g.set z i) q
def cJ2:GsD:=λds Γ S Q=>ds=[]/\Q Γ S
def aX7(t:GD)(u:GsD):GsD:=λds Γ S Q=>match ds with
 |[]=>False
 |d::r=>t d Γ S fun Γ' S'=>u r Γ' S' Q
def cJ3(n:Nat)(t:GsD):GD:=λd Γ S Q=>match d with
 |.tup ds=>ds.length=n/\t ds Γ S Q
 |_=>False
theorem bXh:PGsD K X [] cJ2:=.of bZy λv σ H Q j=>by
 obtain⟨F,S,Γ,ds,QD,r,g,l,⟨e,q⟩,c⟩:=j;subst e;exact⟨l,c _ S _ H (Ext.refl _ _) r g q⟩
theorem aZm{e:Expr}{es:List Expr}{t:GD}{u:GsD}(h1:PGD K X e t)(h2:PGsD K X es u)(ha:(fq (e::es) X.env).map (·.2)=jB e X.env::(fq es X.env).map (·.2):=by rfl):PGsD K X (e::es) (aX7 t u) :=
 .of (aZw h1.o h2.o ha) λvs σ H Q z=>z.el λF S Γ ds QD r g l q c=>by
  cases ds with
  |nil=>exact q.elim
  |cons d ds =>
   obtain⟨v,vs,rfl,D,l⟩:=l;exact⟨v,vs,rfl,F,S,Γ,d,_,r,g,D,q,fun Γ1 U σ1 H1 j G g1 J=>⟨F,U,Γ1,ds,_,G,g1,l.ext j,J,fun Γ2 O σ2 H2 B=>c Γ2 O σ2 H2 (j.trans B)⟩⟩
theorem cZr{es:List Expr}{kk:Nat}{t:GsD}{n:Nat}(hc:X.calm=true)(h:PGsD K X es t)(hK:X.K=K:=by rfl)
  (hn:(fq es X.env).length=n:=by rfl) (hst:(fq es X.env).findIdx? (·.1)=none:=by rfl):PGD K X (.Tuple es kk pos) (cJ3 n t) :=
 .of (cZ5 hc h.o hn hst) λv σ H Q j=>j.el λF S Γ d QD r g z q c=>by
  cases d with
  |tup ds =>
   obtain⟨p,us,rfl,sq,l⟩:=tup.st z;exact⟨p,us,rfl,by rw[hK];exact sq,by rw[l.length];exact q.1,F,S,Γ,ds,_,r,g,l,q.2,c⟩
  |_=>exact q.elim
def eJk:SD:=λE Γ S=>E.nx Γ S
def dSeq(t u:SD):SD:=λE Γ S=>t {E with nx:=u E} Γ S
def dAsg(te:ED)(g:GD):SD:=λE Γ S=>te Γ S λd S1=>g d Γ S1 E.nx
def gX8(te:ED):SD:=λE Γ S=>te Γ S λ_ S1=>E.nx Γ S1
def dRet(te:ED):SD:=λE Γ S=>te Γ S E.rt
def dIfS(c:TD)(t u:SD):SD:=λE Γ S=>c Γ S λb S1=>if b=true then t E Γ S1 else u E Γ S1
section
variable{st:Stmt}{rest:List Stmt}{t u:SD}
theorem aQq:PSsD K X [] eJk:=.of eZz λz σ H j=>j.el λF S Γ E r g q c=>c.nx Γ S σ H (Ext.refl _ _) r g q
theorem aQ2(h1:PSD K X st t)(h2:PSsD K X rest u):PSsD K X (st::rest) (dSeq t u):=.of (cZ4 h1.o h2.o) λJ σ H j=>j.el λF S Γ E r g q c =>
 ⟨F,S,Γ,{E with nx:=u E},r,g,q,fun Γ1 G σ1 H1 z B g1 D=>⟨F,G,Γ1,E,B,g1,D,c.ext z⟩,c.rt,c.bk,c.ct⟩
theorem aQ4(h1:PSD K X st t):PSsD K X [st] t:=⟨eX0 h1.o⟩
theorem fJm{tg e:Expr}{te:ED}{g:GD}(he:PD K X e te)(hg:PGD K X tg g)(hs:swapsWithSole [tg] e pos.line X.env=pure false:=by rfl)(hw:swappedStores [tg] e X.env=pure none:=by rfl)
  (h1:(fq [tg] X.env).map (·.2)=[jB tg X.env]:=by rfl):PSD K X (.Assign [tg] e pos) (dAsg te g):=.of (fZp he.o hg.o hs hw h1) λU σ H z=>z.el λF S Γ E r g q c =>
 ⟨F,S,Γ,_,r,g,q,λv d H1 O j D v1 G=>⟨F,O,Γ,d,_,D,g.ext j,v1,G,fun Γ2 J σ2 H2 B=>c.nx Γ2 J σ2 H2 (j.trans B)⟩⟩
theorem fJn:∀D' σ H,upS K (dAsg te (aQx i)) D' σ H->tAsg (upE K te) (bZ6 i) D' σ H:=λD' σ H z=>z.el λF S Γ E r g q c =>
 ⟨F,S,Γ,_,r,g,q,λv d H1 G j B v1 D=>c.nx _ G _ H1 j B ((g.ext j).set v1 i) D⟩
theorem aQd(hN:X.N.Nodup)(hi:X.N[i]?=some x)(hx:Loc X.env.scope x)(he:PD K X e te)(hs:iq e (some (.Name x pos')) pos.line X.env=pure false:=by rfl)(hf:X.fn x=true\/X.env.scope.names.lookup x=some .local:=by first|exact .inl rfl|exact .inr rfl|assumption) :
  PSD K X (.Assign [.Name x pos'] e pos) (dAsg te (aQx i)):=.of (fZq hN hi hx he.o hs hf) fJn
theorem dZ3(he:PD K X e te)(hs:iq e none pos.line X.env=pure false:=by rfl):PSD K X (.Expr e pos) (gX8 te):=.of (eX1 he.o hs) λJ σ H z=>z.el λF S Γ E r g q c =>
 ⟨F,S,Γ,_,r,g,q,λv d H1 G j B v1 D=>c.nx Γ G σ H1 j B (g.ext j) D⟩
theorem aQb(he:PD K X e te):PSD K X (.Return (some e) pos) (dRet te):=.of (fZo he.o) λJ σ H j=>j.el λF S Γ E r g q c =>
 ⟨F,S,Γ,_,r,g,q,λv d H1 G z B v1 D=>c.rt v d H1 G z B v1 D⟩
theorem aZy(hc:PTD K X c tc)(ha:PSsD K X sa t)(hb:PSsD K X sb u):PSD K X (.If c sa sb pos) (dIfS tc t u):=.of (gZg hc.o ha.o hb.o) λO σ H J=>J.el λF S Γ E r g q c =>
 ⟨F,S,Γ,_,r,g,q,λz H1 G j B D=>by
  cases z with
  |true=>exact⟨F,G,Γ,E,B,g.ext j,D,c.ext j⟩
  |false=>exact⟨F,G,Γ,E,B,g.ext j,D,c.ext j⟩⟩
end
def FE(F:Am)(H:Hp)(F2:Am):Prop:=∀a,F2 a->F a\/H a=none
theorem FE.refl(F:Am)(H:Hp):FE F H F:=λ_ h=>.inl h
structure ExtW(F:Am)(S:Sto)(H:Hp)(S':Sto)(H':Hp):Prop where
 keep:∀a o,¬ mt S F a->H a=some o->H' a=some o
 new:∀a,S' a≠none->S a≠none\/H a=none
theorem Ext.w(x:Ext S H S' H'):ExtW F S H S' H':=⟨λa o h e=>x.keep a o (aI λn=>h (.inl n)) e,x.new⟩
theorem ExtW.kpF(x:ExtW F S H S' H')(f:FE F H F2):Keep (mt S F) H (mt S' F2) H':=⟨x.keep,λa h e=>λz=>by
 rcases z with z|z
 ·rcases x.new a z with y|y
  ·exact h (.inl y)
  ·exact e y
 ·rcases f a z with y|y
  ·exact h (.inr y)
  ·exact e y⟩
structure ItOk(K:Fg)(F:Am)(S:Sto)(H:Hp)(J:It)(xs:List D)(G:Sto->Prop):Prop where
 go:∀F2,FE F H F2->∀S2 H2,ExtW F S H S2 H2->Rp K F2 S2 H2->G S2->∀i d,xs[i]?=some d->J.go i H2/\∀x H3,J.yld i H2 x H3->Ext S2 H2 S2 H3/\Rp K F2 S2 H3/\RepV K (mt S2 F2) H3 d x
 stop:∀F2,FE F H F2->∀S2 H2,ExtW F S H S2 H2->Rp K F2 S2 H2->G S2->J.stop xs.length H2
abbrev IDk:=List D->(Sto->Prop)->Sto->Prop
abbrev ID:=Gm->Sto->IDk->Prop
def upI(K:Fg)(t:ID):TI:=fun σ H R=>∃F S Γ QD,Rp K F S H/\RepG K (mt S F) H Γ σ/\t Γ S QD/\∀J xs G H' S',Ext S H S' H'->Rp K F S' H'->ItOk K F S' H' J xs G->QD xs G S'->R J H'
theorem upI.el{p:Prop}(h:upI K t σ H R)(k:∀F S Γ QD,Rp K F S H->RepG K (mt S F) H Γ σ->t Γ S QD->(∀J xs G H' S',Ext S H S' H'->Rp K F S' H'->ItOk K F S' H' J xs G->QD xs G S'->R J H')->p):p:=by
 obtain⟨F,S,Γ,QD,h0,h1,h2,j⟩:=h;exact k F S Γ QD h0 h1 h2 j
structure PID(K:Fg)(X:Cx)(tg e:Expr)(t:ID):Prop where
 o:PI X tg e (upI K t)
theorem PID.of(h:PI X tg e te)(i:∀σ H Q,upI K t σ H Q->te σ H Q):PID K X tg e t:=⟨λpins s σ H Q I q=>h pins s σ H Q I (i σ H Q q)⟩
def iSq(K:Fg)(tl:TE):TI:=fun σ H R=>tl σ H λx H1=>(∃a,x=.ref a/\(∃xs,SqL K H1 a xs)/\R (Itl K a) H1)\/∃a,x=.ref a/\(∃xs,SqT K H1 a xs)/\R (Itt K a) H1
theorem gX9(hl:PE X l tl)(hK:X.K=K:=by rfl):PI X tg l (iSq K tl):=by
 subst hK;intro pins s σ H R I h;refine thn (hl pins s σ H _ I h) λv s1 ⟨x,H1,j,r1,G⟩=>?_;have fp:∀b∈[s1.heap.objs.size],FpOk X pins H1 b:=λb O=>by
  have e:b=s1.heap.objs.size:=by simpa using O
  subst e;exact j.fpOk (Nat.le_refl _) (j.hok.fresh (Nat.le_refl _))
 rcases G with⟨a,e,⟨xs,B⟩,q⟩|⟨a,e,⟨xs,B⟩,q⟩
 ·subst e;cases r1;obtain⟨z,D,p,J⟩:=j.list B;exact fY p.isList ⟨s1.heap.objs.size,[s1.heap.objs.size],_,_,H1,rfl,j.kept λb o e=>ae _ e,cJk a _,⟨_,aq _ rfl,rfl,rfl⟩,fp,q⟩
 ·subst e;cases r1;obtain⟨z,D,p,J⟩:=j.tuple B;exact fK (p) ⟨s1.heap.objs.size,[s1.heap.objs.size],_,_,H1,rfl,j.kept λb o e=>ae _ e,cXl a _,⟨_,aq _ rfl,rfl,rfl⟩,fp,q⟩
def fJo(d:D)(xs:List D):Sto->Prop:=match d with
 |.ref a=>λS=>S a=some (.lst xs)
 |_=>λ_=>True
def dSq(te:ED):ID:=fun Γ S Q=>te Γ S λd S1=>∃xs,sqIs S1 d xs/\Q xs (fJo d xs) S1
theorem eJl(t:TupAt K (mt S F) H p us)(l:RepL K (mt S F) H xs us):ItOk K F S H (Itt K p) xs G where
 go:=λZ f Y H2 x z _ i d hd=>by
  have j:=(t.keep (x.kpF f)).sq;obtain⟨v,B,O⟩:=l.get hd;refine⟨⟨us,v,j,B⟩,λy H3 ⟨U,J⟩=>?_⟩;subst U
  have:=J us j
  rw[B] at this;cases this;exact⟨Ext.refl _ _,z,O.keep (x.kpF f)⟩
 stop:=λZ f Y H2 x z _=>⟨us,(t.keep (x.kpF f)).sq,by rw[l.length];exact Nat.le_refl _⟩
theorem eJm(t:LstAt K (mt S F) H p us)(l:RepL K (mt S F) H xs us):ItOk K F S H (Itl K p) xs G where
 go:=λZ f Y H2 x z _ i d hd=>by
  obtain⟨v,B,O⟩:=l.get hd;have j:=(t.keep (x.kpF f)).sq;refine⟨⟨us,v,j,B⟩,λy H3 ⟨U,J⟩=>?_⟩;subst U
  have:=J us j
  rw[B] at this;cases this;exact⟨Ext.refl _ _,z,O.keep (x.kpF f)⟩
 stop:=λZ f Y H2 x z _=>⟨us,(t.keep (x.kpF f)).sq,by rw[l.length];exact Nat.le_refl _⟩
theorem eJn:ItOk K F S H (Itl K p) xs (fJo (.ref p) xs) where
 go:=λZ f Y H2 x j B i d hd=>by
  obtain⟨us,z,l⟩:=j.obj p _ B;obtain⟨v,G,O⟩:=l.get hd;refine⟨⟨us,v,SqL.of z,G⟩,λy H3 ⟨U,J⟩=>?_⟩;subst U
  have:=J us (SqL.of z)
  rw[G] at this;cases this;exact⟨Ext.refl _ _,j,O⟩
 stop:=λZ f Y H2 x j B=>by
  obtain⟨us,z,l⟩:=j.obj p _ B;exact⟨us,SqL.of z,by rw[l.length];exact Nat.le_refl _⟩
theorem aZ0(hl:PD K X l tl)(hK:X.K=K:=by rfl):PID K X tg l (dSq tl):=.of (gX9 hl.o hK) fun σ H Q G=>G.el λF S Γ QD r g q c =>
 ⟨F,S,Γ,_,r,g,q,λv d H1 O z j v1 D=>by
  obtain⟨xs,hs,B⟩:=D;cases d with
  |tup ys =>
   cases hs;obtain⟨p,us,rfl,t,l⟩:=v1;exact .inr ⟨p,rfl,⟨us,t.sq⟩,c _ _ _ _ _ z j (eJl t l) B⟩
  |lst ys =>
   cases hs;obtain⟨p,us,rfl,t,l⟩:=v1;exact .inl ⟨p,rfl,⟨us,t.sq⟩,c _ _ _ _ _ z j (eJm t l) B⟩
  |ref p =>
   rw[rref v1];obtain⟨us,J,l⟩:=j.obj p _ hs;exact .inl ⟨p,rfl,⟨us,SqL.of J⟩,c _ _ _ _ _ z j eJn B⟩
  |_=>exact hs.elim⟩
def rngD(lo:Int):Nat->List D
 |0=>[]
 |n+1=>.int lo::rngD (lo+1) n
theorem aJ5:∀(n:Nat) (lo:Int),(rngD lo n).length=n
 |0,_=>rfl
 |n+1,lo=>by simp[rngD,aJ5 n]
theorem bQ5:∀(n:Nat) (lo:Int) (i:Nat) (d:D),(rngD lo n)[i]?=some d->i<n/\d=.int (lo+i)
 |0,lo,i,d,h=>by simp[rngD] at h
 |n+1,lo,0,d,h=>by simp[rngD] at h;exact⟨by lia,by rw[<- h];simp⟩
 |n+1,lo,i+1,d,h=>by
  have h':(rngD (lo+1) n)[i]?=some d:=by simpa [rngD] using h
  obtain⟨h1,h2⟩:=bQ5 n (lo+1) i d h';refine⟨by lia,?_⟩
  rw[h2]
  congr 1
  rw[gP];lia
theorem dZ4{lo:Int}:ItOk K F S H (Itr lo n) (rngD lo n) G where
 go:=λJ f D H2 x j _ i d hd=>by
  obtain⟨h1,rfl⟩:=bQ5 n lo i d hd;exact⟨h1,λy O ⟨B,z⟩=>by subst B;subst z;exact⟨Ext.refl _ _,j,by rfl⟩⟩
 stop:=λJ f D H2 x j _=>by rw[aJ5];exact Nat.le_refl n
def gXa(ta:AD):ID:=fun Γ S Q=>ta Γ S λds S1=>match ds with
 |[.int j]=>(-(2^62)<=j/\j<2^62)/\Q (rngD 0 j.toNat) (λ_=>True) S1
 |_=>False
def gXb(ta:AD):ID:=fun Γ S Q=>ta Γ S λds S1=>match ds with
 |[.int i,.int j]=>(-(2^62)<=i/\i<2^62/\-(2^62)<=j/\j<2^62)/\Q (rngD i (j-i).toNat) (λ_=>True) S1
 |_=>False
theorem bQm{ta:AD}(hg:Gl X "range")(hm:X.mg "range"=none)(ha:PAD K X [a] ta)(hs:aD [a] X.env=[(false,eval a X.env)]:=by rfl):PID K X tg (.Call (.Name "range" p) [a] [] pos) (gXa ta):=.of (cJl hg hm ha.o hs) fun σ H Q B=>B.el λF S Γ QD r g q c =>
 ⟨F,S,Γ,_,r,g,q,λvs ds H1 O D J v1 z=>by
  match ds,z with
  |[.int j],z =>
   obtain⟨v,rfl,G⟩:=v1.one;rw[rint G];exact⟨j,rfl,z.1.1,z.1.2,c _ _ _ _ _ D J dZ4 z.2⟩⟩
theorem bJq{tg:Expr}{p:Pos}{ta:AD}(hg:Gl X "range")(hm:X.mg "range"=none)(ha:PAD K X [a,b] ta)(hs:aD [a,b] X.env=[(false,eval a X.env),(false,eval b X.env)]:=by rfl)(hs2:aD [b] X.env=[(false,eval b X.env)]:=by rfl):PID K X tg (.Call (.Name "range" p) [a,b] [] pos) (gXb ta):=.of (cJm hg hm ha.o hs hs2) fun σ H Q D=>D.el λF S Γ QD r g q c =>
 ⟨F,S,Γ,_,r,g,q,λvs ds H1 U G O v1 z=>by
  match ds,z with
  |[.int i,.int j],z =>
   obtain⟨v,w,rfl,J,B⟩:=v1.two;rw[rint J,rint B];exact⟨i,j,rfl,z.1,c _ _ _ _ _ G O dZ4 z.2⟩⟩
def bZb(lo:Int):List D->List D
 |[]=>[]
 |d::ds=>.tup [.int lo,d]::bZb (lo+1) ds
theorem bQn:∀(ds:List D) (lo:Int),(bZb lo ds).length=ds.length
 |[],_=>rfl
 |d::ds,lo=>by simp[bZb,bQn ds]
theorem bQo:∀(ds:List D) (lo:Int) (i:Nat) (d:D),(bZb lo ds)[i]?=some d->∃e,ds[i]?=some e/\d=.tup [.int (lo+i),e]
 |[],lo,i,d,h=>by simp[bZb] at h
 |e::ds,lo,0,d,h=>by simp[bZb] at h;exact⟨e,rfl,by rw[<- h];simp⟩
 |e::ds,lo,i+1,d,h=>by
  have h':(bZb (lo+1) ds)[i]?=some d:=by simpa [bZb] using h
  obtain⟨f,h1,h2⟩:=bQo ds (lo+1) i d h';refine⟨f,by simpa using h1,?_⟩
  rw[h2]
  have:lo+1+i=lo+((i+1:Nat)):=by rw[gP];lia
  rw[this]
theorem eJo{i:Nat}(r:Rp K F S H)(hp:H p=none)(rv:RepV K (mt S F) H d y):Ext S H S (upd H p (.tup [.int i,y]))/\Rp K F S (upd H p (.tup [.int i,y]))/\RepV K (mt S F) (upd H p (.tup [.int i,y])) (.tup [.int (0+i),d]) (.ref p):=by
 have x:Ext S H S (upd H p (.tup [.int i,y])):=Ext.same (aQs hp);refine⟨x,r.same (aQs hp),?_⟩;exact⟨p,_,rfl,.inl ⟨r.nmt hp,.inl aQ6⟩,RepL.cons (by unfold RepV;rw[Int.zero_add]) (RepL.cons (rv.ext x) RepL.nil)⟩
theorem eJp(t:TupAt K (mt S F) H p us)(l:RepL K (mt S F) H xs us):ItOk K F S H (Ite K p) (bZb 0 xs) G where
 go:=λF2 f S2 H2 x B _ i d hd=>by
  obtain⟨e,he,rfl⟩:=bQo xs 0 i d hd;obtain⟨v,J,U⟩:=l.get he;have j:=(t.keep (x.kpF f)).sq;refine⟨⟨us,v,j,J⟩,λz H3 ⟨q,y,Y,Z,eH,O⟩=>?_⟩;subst Z;subst eH
  have:=O us j
  rw[J] at this;cases this;exact eJo B Y (U.keep (x.kpF f))
 stop:=λF2 f S2 H2 x B _=>⟨us,(t.keep (x.kpF f)).sq,by rw[bQn,l.length];exact Nat.le_refl _⟩
def dEnT(ta:AD):ID:=fun Γ S Q=>ta Γ S λds S1=>match ds with
 |[.tup xs]=>Q (bZb 0 xs) (λ_=>True) S1
 |_=>False
theorem fJp{ta:AD}{p:Pos}{elts:List Expr}{x1:Nat}{tpos:Pos}(hg:Gl X "enumerate")(hm:X.mg "enumerate"=none)(ha:PAD K X [e] ta)(hs:aD [e] X.env=[(false,eval e X.env)]:=by rfl)(hK:X.K=K:=by rfl) :
  PID K X (.Tuple elts x1 tpos) (.Call (.Name "enumerate" p) [e] [] pos) (dEnT ta):=.of (fXo hg hm ha.o hs hK) fun σ H Q B=>B.el λF S Γ QD r g q c =>
 ⟨F,S,Γ,_,r,g,q,λvs ds H1 G x1 D v1 j=>by
  match ds,j with
  |[.tup xs],j =>
   obtain⟨v,rfl,z⟩:=v1.one;obtain⟨p,us,rfl,t,l⟩:=z;exact⟨p,rfl,⟨us,t.sq⟩,c _ _ _ _ _ x1 D (eJp t l) j⟩⟩
def cJ4(x:Str):List D:=x.cps.toList.map λc=>.str ⟨#[c]⟩
def forD(g:GD)(tb:SD)(G:Sto->Prop)(E:EndsD):List D->Gm->Sto->Prop
 |[],Γ,S=>G S/\E.nx Γ S
 |x::xs,Γ,S=>G S/\g x Γ S fun Γ2 S2=>tb {E with nx:=forD g tb G E xs,ct:=forD g tb G E xs,bk:=E.nx} Γ2 S2
def dFor(wi:ID)(g:GD)(tb:SD):SD:=λE Γ S=>wi Γ S λxs G S1=>forD g tb G E xs Γ S1
theorem aX8{α:Type}{xs:List α}(h:i<xs.length):xs.drop i=xs[i]::xs.drop (i+1):=cj h
theorem aXj{tb:SD}(hp:PassesOwn (aF X.prog X.w) X.A X.env X.xe)(hc:X.calm=true)(hi:PID K X tg iter wi)(hg:PGD K X tg g)(hb:PSsD K X body tb)(hs:∀x,cy iter X.env x=pure x:=by intro _;rfl):PSD K X (.For tg iter body [] pos) (dFor wi g tb):=.of (fZr hp hc hi.o hg.o hb.o hs) λD' σ H z0=>z0.el λF S Γ E r gm q c =>
 ⟨F,S,Γ,_,r,gm,q,λJ xs G H1 S1 x1 r1 it q1=>by
  refine⟨λi m σ' H'=>m=xs.length-i/\i<=xs.length/\∃S' Γ',Ext S1 H1 S' H'/\Rp K F S' H'/\RepG K (mt S' F) H' Γ' σ'/\forD g tb G E (xs.drop i) Γ' S',⟨xs.length,by simp,Nat.zero_le _,S1,Γ,Ext.refl _ _,r1,gm.ext x1,by simpa using q1⟩,?_⟩
  rintro i m σ' H' ⟨rfl,hi.o,S',Γ',x2,r2,g2,f2⟩
  by_cases U:i<xs.length
  ·rw[aX8 U] at f2;obtain⟨hG,f2⟩:=f2;obtain⟨hgo,hy⟩:=it.go F (FE.refl F H1) S' H' x2.w r2 hG i xs[i] (af U);refine .inr ⟨hgo,fun σ'' D=>∃B Γ'',Ext S1 H1 B D/\Rp K F B D/\RepG K (mt B F) D Γ'' σ''/\forD g tb G E (xs.drop (i+1)) Γ'' B,fun σ'' D z=>⟨xs.length-(i+1),by lia,rfl,U,z⟩,λx H3 y3=>?_⟩
   obtain⟨x3,r3,v3⟩:=hy x H3 y3;refine⟨F,S',Γ',xs[i],_,r3,g2.ext x3,v3,f2,fun Γ4 S4 σ4 H4 x4 r4 g4 q4=>⟨F,S4,Γ4,_,r4,g4,q4,?_⟩⟩;have j:=x2.trans (x3.trans x4);exact⟨fun Γ5 Y σ5 Z O r5 g5 q5=>⟨Y,Γ5,j.trans O,r5,g5,q5⟩,λv d Z Y O=>c.rt v d Z Y (x1.trans (j.trans O)),fun Γ5 Y σ5 Z O=>c.nx Γ5 Y σ5 Z (x1.trans (j.trans O)),fun Γ5 Y σ5 Z O r5 g5 q5=>⟨Y,Γ5,j.trans O,r5,g5,q5⟩⟩
  ·have e:i=xs.length:=by lia
   subst e;rw[gx] at f2;exact .inl ⟨it.stop F (FE.refl F H1) S' H' x2.w r2 f2.1,c.nx Γ' S' σ' H' (x1.trans x2) r2 g2 f2.2⟩⟩
end
end L2
set_option maxHeartbeats 1000000
namespace L2
open PySem PySem.Spec PyProof.Rows
section
variable{X:Cx}{K:Fg}{pos:Pos}{k:Nat}
structure ExtX(D':Addr)(S:Sto)(H:Hp)(S':Sto)(H':Hp):Prop where
 keep:∀a o,a≠D'->S a=none->H a=some o->H' a=some o
 live:∀a,H a≠none->H' a≠none
 new:∀a,S' a≠none->S a≠none\/H a=none
theorem Ext.x(x:Ext S H S' H'):ExtX D' S H S' H':=⟨λa o _=>x.keep a o,x.live,x.new⟩
theorem ExtX.trans(x:ExtX D' S H S1 H1)(y:ExtX D' S1 H1 S2 H2):ExtX D' S H S2 H2 :=
  ⟨λa o n h h' => y.keep a o n (by
      cases e:S1 a with
      |none =>rfl
      | some z => rcases x.new a (by rw [e]; exact λz => by cases z) with z | z
                  · exact absurd h z
                  · rw [h'] at z; cases z) (x.keep a o n h h'),λa h =>y.live a (x.live a h),λa h =>by
    rcases y.new a h with z|z
    · exact x.new a z
    · exact .inr (aI λn =>x.live a n z)⟩
theorem ExtX.kp(x:ExtX D' S H S' H')(hF:F D'):Keep (mt S F) H (mt S' F) H':=⟨λa o h e=>x.keep a o (by rintro rfl;exact h (.inr hF)) (aI λn=>h (.inl n)) e,λa h e=>λz=>by
 rcases z with z|z
 ·rcases x.new a z with y|y
  ·exact h (.inl y)
  ·exact e y
 ·exact h (.inr z)⟩
theorem ExtX.w(x:ExtX D' S H S' H')(hF:F D'):ExtW F S H S' H':=⟨λa o h e=>x.keep a o (by rintro rfl;exact h (.inr hF)) (aI λn=>h (.inl n)) e,x.new⟩
def Free(L:List Nat)(σ:St):Prop:=∀i∈L,σ[i]?=some none
abbrev BD:=Gm->Sto->List D->(List D->Sto->Prop)->Prop
def bQp(K:Fg)(L:List Nat)(tv:Addr->TB)(td:BD):Prop:=∀D' F S H Γ σ acc zs N QD,Free L σ->F D'->Rp K F S H->RepG K (mt S F) H Γ σ->H D'=some (.lst zs)->RepL K (mt S F) H acc zs->td Γ S acc QD ->
 (∀acc' S' H' zs',ExtX D' S H S' H'->Rp K F S' H'->H' D'=some (.lst zs')->RepL K (mt S' F) H' acc' zs'->QD acc' S'->N H')->tv D' σ H N
def bXi(te:ED):BD:=fun Γ S acc Q=>te Γ S λy S1=>acc.length<sizeLine/\Q (acc++[y]) S1
theorem aQk:bQp K L (λD'=>fXf D' (upE K te)) (bXi te):=by
 intro D' F S H Γ σ acc zs N QD _ j r g Z l q c;refine⟨F,S,Γ,_,r,g,q,λv d H1 B D G v1 ⟨U,O⟩=>?_⟩;have Y:=(r.frm D' j).2;have J:=(G.frm D' j).2;have h1:=D.keep _ _ Y Z;have y:ExtX D' B H1 B (upd H1 D' (.lst (zs++[v]))):=⟨λa o n _ e=>by rw[upd_ne n];exact e,λa h=>by
  by_cases e:a=D'
  ·subst e;rw[aQ6];exact λz=>by cases z
  ·rw[upd_ne e];exact h,λa h=>.inl h⟩
 refine⟨zs,h1,by rw[l.length];exact U,c _ B _ (zs++[v]) (D.x.trans y) ?_ aQ6 ?_ O⟩
 ·exact⟨λa o e=>(G.obj a o e).keep (y.kp j) (upd_ne (by rintro rfl;rw[J] at e;cases e)),λa h=>by
   obtain⟨⟨ys,e,ct⟩,h2⟩:=G.frm a h
   by_cases z:a=D'
   ·subst z;exact⟨⟨_,aQ6,trivial⟩,h2⟩
   ·exact⟨⟨ys,by rw[upd_ne z];exact e,ct⟩,h2⟩⟩
 ·exact RepL.app ((l.ext D).keep (y.kp j)) (RepL.cons (v1.keep (y.kp j)) RepL.nil)
def CG(K:Fg)(L L':List Nat)(g:TG)(gd:GD):Prop:=∀F S H Γ σ d v Q QD,Free L σ->Rp K F S H->RepG K (mt S F) H Γ σ->RepV K (mt S F) H d v->gd d Γ S QD->(∀Γ' S' σ' H',Ext S H S' H'->Rp K F S' H'->RepG K (mt S' F) H' Γ' σ'->Wk σ σ'->Free L' σ'->QD Γ' S'->Q σ' H')->g v σ H Q
theorem Free.set(h:Free (i::L) σ)(hi:i∉L):Free L (σ.set i (some v)):=λj z=>by
 rw[f8 (by rintro rfl;exact hi z)]
 exact h j (ak _ z)
theorem cg_name(hi:i∉L:=by decide):CG K (i::L) L (bZ6 i) (aQx i):=λF S H Γ σ d v Q QD f r g j q c=>c _ S _ H (Ext.refl _ _) r (g.set j i) (cXq (f i ai)) (f.set hi) q
theorem eJq(hi:i∉j::L:=by decide)(hj:j∉L:=by decide):CG K (i::j::L) L (gTup K 2 (cQ8 (bZ6 i) (cQ8 (bZ6 j) gNil))) (cJ3 2 (aX7 (aQx i) (aX7 (aQx j) cJ2))):=λF S H Γ σ d v Q QD f r g z q c=>by
 cases d with
 |tup ds =>
  obtain⟨p,us,rfl,sq,l⟩:=tup.st z;obtain⟨hl,q⟩:=q
  match ds,hl,q with
  |[J,G],_,q =>
   obtain⟨v1,v2,rfl,D,B⟩:=l.two;have f1:Free (j::L) (σ.set i (some v1)):=f.set hi;exact⟨p,_,rfl,sq,rfl,v1,_,rfl,v2,_,rfl,rfl,c _ S _ H (Ext.refl _ _) r ((g.set D i).set B j) ((cXq (f i ai)).trans (cXq (f1 j ai))) (f1.set hj) q.2⟩
 |_=>exact q.elim
def aZd(g:GD)(tt:TD)(tb:BD)(G:Sto->Prop)(Γ0:Gm):List D->List D->Sto->(List D->Sto->Prop)->Prop
 |[],acc,S,Q=>G S/\Q acc S
 |x::xs,acc,S,Q=>G S/\g x Γ0 S fun Γ2 S2=>tt Γ2 S2 λb S3=>if b=true then tb Γ2 S3 acc λacc' S4=>aZd g tt tb G Γ0 xs acc' S4 Q else aZd g tt tb G Γ0 xs acc S3 Q
theorem dZ5(hg:CG K L L' g gd)(hb:bQp K L' tv tb){D':Addr}{F:Am}{S:Sto}{H:Hp}{Γ:Gm}{σ:St}{acc:List D}{zs:List V}{N:Hp->Prop}{QD:List D->Sto->Prop}{J:It}{xs:List D}{G:Sto->Prop}
  (f:Free L σ) (hF:F D') (r:Rp K F S H) (gm:RepG K (mt S F) H Γ σ) (hH:H D'=some (.lst zs)) (l:RepL K (mt S F) H acc zs) (it:∀S2 H2,ExtX D' S H S2 H2->Rp K F S2 H2->G S2->(∀i d,xs[i]?=some d->J.go i H2/\∀x H3,J.yld i H2 x H3->Ext S2 H2 S2 H3/\Rp K F S2 H3/\RepV K (mt S2 F) H3 d x)/\J.stop xs.length H2)
  (q:aZd gd tt tb G Γ xs acc S QD) (c:∀acc' S' H' zs',ExtX D' S H S' H'->Rp K F S' H'->H' D'=some (.lst zs')->RepL K (mt S' F) H' acc' zs'->QD acc' S'->N H'):cQa J σ g (upT K tt) (tv D') N H:=by
 refine⟨λi m H'=>m=xs.length-i/\i<=xs.length/\∃S' acc' zs',ExtX D' S H S' H'/\Rp K F S' H'/\H' D'=some (.lst zs')/\RepL K (mt S' F) H' acc' zs'/\aZd gd tt tb G Γ (xs.drop i) acc' S' QD,⟨xs.length,by simp,Nat.zero_le _,S,acc,zs,(Ext.refl _ _).x,r,hH,l,by simpa using q⟩,?_⟩
 rintro i m H' ⟨rfl,hi,S',acc',zs',x2,r2,h2,l2,f2⟩;have g2:=gm.keep (x2.kp hF)
 by_cases Z:i<xs.length
 ·rw[aX8 Z] at f2;obtain⟨hG,f2⟩:=f2;obtain⟨hgo,hy⟩:=(it S' H' x2 r2 hG).1 i xs[i] (af Z);refine .inr ⟨hgo,λB=>∃O j U,ExtX D' S H O B/\Rp K F O B/\B D'=some (.lst U)/\RepL K (mt O F) B j U/\aZd gd tt tb G Γ (xs.drop (i+1)) j O QD,λB z=>⟨xs.length-(i+1),by omega,rfl,Z,z⟩,λx H3 y3=>?_⟩
  obtain⟨x3,r3,v3⟩:=hy x H3 y3;refine hg F S' H3 Γ σ xs[i] x _ _ f r3 (g2.ext x3) v3 f2 fun Γ4 S4 σ4 H4 x4 r4 g4 wk fr4 q4=>⟨wk,F,S4,Γ4,_,r4,g4,q4,λz H5 S5 x5 r5 q5=>?_⟩;have Y:=x3.trans (x4.trans x5);have h5:=Y.keep _ _ (r2.frm D' hF).2 h2;have l5:=l2.ext Y;have x05:=x2.trans Y.x;cases z with
  |false=>exact⟨S5,acc',zs',x05,r5,h5,l5,q5⟩
  |true=>exact hb D' F S5 H5 Γ4 σ4 acc' zs' _ _ fr4 hF r5 (g4.ext x5) h5 l5 q5 λacc6 S6 H6 zs6 x6 r6 h6 l6 q6=>⟨S6,acc6,zs6,x05.trans x6,r6,h6,l6,q6⟩
 ·have e:i=xs.length:=by lia
  subst e;rw[gx] at f2;exact .inl ⟨(it S' H' x2 r2 f2.1).2,c acc' S' H' zs' x2 r2 h2 l2 f2.2⟩
def eZ8(wi:ID)(g:GD)(tt:TD)(tb:BD):BD:=fun Γ S acc Q=>wi Γ S λxs G S1=>aZd g tt tb G Γ xs acc S1 Q
theorem cZs(hg:CG K L L' g gd)(hb:bQp K L' tv tb):bQp K L (λD'=>cJz (upI K wi) g (upT K tt) (tv D')) (eZ8 wi gd tt tb):=by
 intro D' F S H Γ σ acc zs N QD fr D r Z hH l q c;refine⟨F,S,Γ,_,r,Z,q,λJ xs G H1 S1 B r1 it q1=>?_⟩;have h1:=B.keep _ _ (r.frm D' D).2 hH;exact dZ5 hg hb fr D r1 (Z.ext B) h1 (l.ext B) (λS2 H2 z U Y=>⟨it.go F (FE.refl _ _) S2 H2 (z.w D) U Y,it.stop F (FE.refl _ _) S2 H2 (z.w D) U Y⟩) q1 λj S' H' O z=>c j S' H' O (B.x.trans z)
def dZ6(is:List (Option Nat))(Γ:Gm):Gm:=is.map λo=>o.bind λi=>(Γ[i]?).join
theorem RepG.at:∀{g:Gm}{σ:St}{i:Nat}{d:D},RepG K M H g σ->g[i]?=some (some d)->∃v,σ[i]?=some (some v)/\RepV K M H d v
 |[],_,_,_,_,e=>by simp at e
 |none::g,_,0,_,_,e=>by simp at e
 |some d::g,_,0,e,⟨v,τ,rfl,q,r⟩,h=>by simp at h;subst h;exact⟨v,rfl,q⟩
 |none::g,_,i+1,d,⟨v,τ,rfl,r⟩,h=>by
  obtain⟨u,j,h1⟩:=RepG.at r (by simpa using h)
  exact⟨u,by simpa using j,h1⟩
 |some _::g,_,i+1,d,⟨v,τ,rfl,q,r⟩,h=>by
  obtain⟨u,j,h1⟩:=RepG.at r (by simpa using h)
  exact⟨u,by simpa using j,h1⟩
theorem RepG.capt(h:RepG K M H g σ):∀is:List (Option Nat),RepG K M H (dZ6 is g) (capt is σ)
 |[]=>rfl
 |o::is=>by
  have j:=RepG.capt h is;cases o with
  |none=>exact⟨_,_,rfl,j⟩
  |some i =>
   show RepG K M H ((g[i]?).join::dZ6 is g) ((σ[i]?).join::L2.capt is σ);cases e:g[i]? with
   |none=>exact⟨_,_,rfl,j⟩
   |some z =>
    cases z with
    |none=>exact⟨_,_,rfl,j⟩
    |some d =>
     obtain⟨v,B,r⟩:=h.at e;rw[B];exact⟨v,_,rfl,r,j⟩
def eJr(b:Bool)(is:List (Option Nat))(wi:ID)(g:GD)(tt:TD)(tb:BD):ED:=fun Γ S Q=>wi Γ S λxs G S1=>aZd g tt tb G (dZ6 is Γ) xs [] S1 λacc S2=>newL b acc S2 Q
theorem dZ7(hL:∀σ,Free L (capt is σ))(hg:CG K L L' g gd)(hb:bQp K L' tv tb):∀σ H Q,upE K (eJr b is wi gd tt tb) σ H Q->cZa is (upI K wi) g (upT K tt) tv σ H Q:=fun σ H Q z0=>z0.el λF S Γ QD r gm q c =>
 ⟨F,S,Γ,_,r,gm,q,λJ xs G H1 D x1 r1 it q1 D' B=>by
  have Y:=r1.sn B;have fe:FE F H1 (λa=>F a\/a=D'):=λa h=>h.elim .inl λe=>.inr (by rw[e];exact B)
  have nF:¬ F D':=λh=>by
   obtain⟨⟨ys,e,_⟩,_⟩:=r1.frm D' h;rw[B] at e;cases e
  have xe:Ext D H1 D (upd H1 D' (.lst [])):=Ext.same (aQs B);have kp:=xe.w.kpF fe;have r2:Rp K (λa=>F a\/a=D') D (upd H1 D' (.lst [])):=⟨λa o e=>(r1.obj a o e).keep kp (upd_ne (by rintro rfl;rw[Y] at e;cases e)),λa h=>by
   rcases h with h|h
   ·obtain⟨⟨ys,e,ct⟩,h2⟩:=r1.frm a h;exact⟨⟨ys,by rw[upd_ne (by rintro rfl;rw[B] at e;cases e)];exact e,ct⟩,h2⟩
   ·subst h;exact⟨⟨_,aQ6,trivial⟩,Y⟩⟩
  have old:∀ {O H2},ExtX D' D (upd H1 D' (.lst [])) O H2->Ext D H1 O H2:=λ{O H2} y=>⟨λa o h e=>y.keep a o (by rintro rfl;rw[B] at e;cases e) h (by rw[upd_ne (by rintro rfl;rw[B] at e;cases e)];exact e),λa h=>y.live a (xe.live a h),λa h=>by
   rcases y.new a h with z|z
   ·exact .inl z
   ·by_cases e:a=D'
    ·subst e;exact .inr B
    ·rw[upd_ne e] at z;exact .inr z⟩
  refine dZ5 hg hb (hL σ) (.inr rfl) r2 ((gm.ext x1).keep kp |>.capt is) aQ6 RepL.nil (λO H2 y r2 hG=>⟨it.go _ fe O H2 (old y).w r2 hG,it.stop _ fe O H2 (old y).w r2 hG⟩) q1 λj S' H' U y r3 h3 l3 q3=>?_
  have less:Keep (mt S' λa=>F a\/a=D') H' (mt S' F) H':=⟨λ_ _ _ e=>e,λa h _=>λz=>h (z.elim .inl λw=>.inr (.inl w))⟩;have x3:=old y;have Z:=(r3.frm D' (.inr rfl)).2;have r4:Rp K F S' H':=⟨λa o e=>(r3.obj a o e).keep less rfl,λa h=>r3.frm a (.inl h)⟩;have nm:¬ mt S' F D':=λz=>z.elim (λw=>w Z) nF;cases b with
  |false =>
   refine c (.ref D') (.lst j) H' S' (x1.trans x3) r4 ?_ q3;exact⟨D',U,rfl,.inl ⟨nm,.inl h3⟩,l3.keep less⟩
  |true =>
   have x5:Ext D H1 (supd S' D' (.lst j)) H':=⟨x3.keep,x3.live,λa h=>by
    by_cases e:a=D'
    ·subst e;exact .inr B
    ·rw[supd_ne e] at h;exact x3.new a h⟩
   have k6:Keep (mt S' λa=>F a\/a=D') H' (mt (supd S' D' (.lst j)) F) H':=⟨λ_ _ _ e=>e,λa h _=>λz=>by
    rcases z with z|z
    ·by_cases e:a=D'
     ·exact h (.inr (.inr e))
     ·rw[supd_ne e] at z;exact h (.inl z)
    ·exact h (.inr (.inl z))⟩
   refine c (.ref D') (.ref D') H' (supd S' D' (.lst j)) (x1.trans x5) ⟨λa o e=>?_,λa h=>⟨(r4.frm a h).1,?_⟩⟩ (by rfl) (q3 D' Z)
   ·by_cases e1:a=D'
    ·subst e1;rw[aQc] at e;cases e;exact⟨U,h3,l3.keep k6⟩
    ·rw[supd_ne e1] at e;exact(r3.obj a o e).keep k6 rfl
   ·rw[supd_ne (by rintro rfl;exact nF h)];exact(r4.frm a h).2⟩
def dYes:TD:=λ_ S Q=>Q true S
theorem aZ4:PTs X [] (upT K dYes):=λpins s σ H Q I j=>j.el λF S Γ QD r g q c=>eXh pins s σ H Q I (c true H S (Ext.refl _ _) r q)
theorem aQh(h:(L.all λi=>decide (is[i]?=some none))=true):∀σ,Free L (capt is σ):=fun σ i hi=>by
 have:=of_decide_eq_true (bI.mp h i hi)
 unfold capt;rw[aQ,this]
 rfl
theorem aQw(h:PTD K X c t):PTs X [c] (upT K t):=eXi h.o
end
end L2
set_option maxHeartbeats 4000000
namespace L2
open PySem PySem.Spec PyProof.Rows
section
variable{prog:ax}{w:aK}{s:ag}
def Col(prog:ax)(w:aK)(s:ag)(v:ab)(Pv:List ab->Prop):Prop:=∀(A:aU) (E:ab->ag->Prop) (R:List ab->ag->Prop),A.handled=none ->
 (∀vals h' d tk,Pv vals->(∀b o,s.heap.get? b=some o->h'.get? b=some o)->R vals {s with heap:=h',drawn:=d,toks:=tk})->aE (aF prog w) A (collect v) R E s
theorem dZ8{a:Addr}{T:String}{o:Obj}{its:List ab}{n:Nat}(hT:T="list"\/T="tuple")(ho:s.heap.get? a=some o)(hc:o.cls=.type T)(hd:o.data=.seq its.toArray n)(hz:its.length<=sizeLine):Col prog w s (.ref a) (·=its):=λA E R _ h =>
 wpAny_collect_seq a hT ho hc hd (λh' k=>by
  have:=h its h' s.drawn s.toks rfl k
  simpa using this) (by simpa using hz)
theorem dJo(lo:(a==fk)=false)(hd:s.heap.DictOf (bQ7 prog w) a vs)(hz:vs.length<=sizeLine):Col prog w s (.ref a) (λvals=>vals.length=vs.length/\∀(j:Nat) (v:ab),vals[j]?=some v->∃(k:Key) (x:ab),vs[j]?=some (k,x)/\dXu k v=true):=λA E R J h=>by
 obtain⟨ep,B⟩:=hd.dictAt;refine PySem.W.kdu_collect (PySem.W.kdl_dict lo) J B hz λh' D acc G z=>?_;exact h acc.toList h' s.drawn D ⟨by rw[aW];exact z.1,λj v e=>z.2 j v (by rw[<- aS];exact e)⟩ G
theorem aJo(hh:A.handled=none)(col:Col prog w s v Pv)(hz:∀vals,Pv vals->vals.length<=sizeLine)
  (srt:∀(vals:List ab) (h1:bb) (d:Drawn) (tk:Nat),Pv vals->(∀b o,s.heap.get? b=some o->h1.get? b=some o)->aE (aF prog w) A.in1.in1 (cr.«list.sort» ⟨[.ref h1.objs.size],[]⟩) (λfin s'=>fin=.done (.ret .none)/\Q (.ref h1.objs.size) s') E {s with heap:=h1.push (b8 "list" vals.toArray 0),drawn:=d,toks:=tk}) :
  aE (aF prog w) A (call (.builtin "sorted") [v]) Q E s:=by
 refine gA kind_sorted plain_sorted entry_sorted (args_sorted1 _) ?_;refine aa (ad ?_);refine aa (col A.in1 _ _ (by simp[hh]) λvals h1 d tk pv kp=>?_)
 refine aa (jH ?_ (hz vals pv));have j:(h1.push (b8 "list" vals.toArray 0)).get? h1.objs.size=some (b8 "list" vals.toArray 0):=aq _ rfl;refine aa (bS (b9 slot_list_sort ⟨_,j,rfl⟩ entry_list_sort ?body (args_list_sort _)))
 case body =>
  refine dw (srt vals h1 d tk pv kp) (λfin s' ⟨e,q⟩=>?_) λ_ _ e=>e;subst e;exact⟨_,rfl,ad ⟨_,rfl,q⟩⟩
theorem bQq(ho:h.get? a=some (b8 "list" vs.toArray n)):(∃c,(iB h a vs out).get? a=some (b8 "list" out c))/\∀b o,b≠a->h.get? b=some o->(iB h a vs out).get? b=some o:=by
 obtain⟨D,j⟩:∃D,(h.update a (cf λ_=>(#[]))).get? a=some (b8 "list" #[] D):=⟨_,e8 ho λ_=>#[]⟩;have G:=cm h a (cf λ_=>(#[]));have z:∀b o,(h.update a (cf λ_=>(#[]))).get? b=some o->(((h.update a (cf λ_=>(#[]))).push (b8 "tuple" vs.toArray 0)).push (b8 "list" #[] 0)).get? b=some o:=λb o e=>ae _ (ae _ e);refine⟨⟨_,e8 (z _ _ j) λ_=>out⟩,λb o B e=>?_⟩;have s2:=cm (((h.update a (cf λ_=>(#[]))).push (b8 "tuple" vs.toArray 0)).push (b8 "list" #[] 0)) a (cf λ_=>out);exact(s2.2 b B).trans (z b o ((G.2 b B).trans e))
theorem dZ9(ho:s.heap.get? a=some (b8 "list" vs.toArray n))(hS:kc vs ss)(h64:vs.length<=sizeLine)
  (h:∀(out:List ab) (ss':List Str) (h':bb) (c:Nat),kc out ss'->ss'.Perm ss->sortedS ss'=true->h'.get? a=some (b8 "list" out.toArray c)->(∀b o,b≠a->s.heap.get? b=some o->h'.get? b=some o)->P (.done (.ret .none)) {s with heap:=h'}) :
  aE (aF prog w) A (cr.«list.sort» ⟨[.ref a],[]⟩) P E s:=by
 refine SF.treeK strKind_oneLt ho hS.keysOf (λB z rest e=>keyKind_strs (by rw[<- e];exact hS)) h64 λj D hs=>?_
 obtain⟨ss',h1,h2,O⟩:=sorted_out_str hS D hs;obtain⟨⟨c,J⟩,G⟩:=bQq ho;exact h _ ss' _ c h1 h2 O (by rw[J]) G
theorem dZa{A:aU}{E:ab->ag->Prop}{a:Addr}{vs:List ab}{ns:List Int}{n:Nat}{P:iZ->ag->Prop}(ho:s.heap.get? a=some (b8 "list" vs.toArray n))(hI:iQ vs ns)(h64:vs.length<=sizeLine)
  (h:∀(out:List ab) (ns':List Int) (h':bb) (c:Nat),iQ out ns'->ns'.Perm ns->ns'.Pairwise (·<=·)->h'.get? a=some (b8 "list" out.toArray c)->(∀b o,b≠a->s.heap.get? b=some o->h'.get? b=some o)->P (.done (.ret .none)) {s with heap:=h'}) :
  aE (aF prog w) A (cr.«list.sort» ⟨[.ref a],[]⟩) P E s:=by
 refine SF.treeI ho hI h64 λout ns' h1 h2 B=>?_;obtain⟨⟨c,z⟩,j⟩:=bQq ho;exact h _ ns' _ c h1 h2 B (by rw[z]) j
end
section
variable{X:Cx}{K:Fg}
def Src(K:Fg)(H:Hp)(x:V)(us:List V):Prop:=∃a,x=.ref a/\(SqL K H a us\/SqT K H a us\/∃kvs:List (Key×V),H a=some (.dK kvs)/\us=kvs.map λp=>kV p.1)
theorem bJr:∀{kvs:List (Key×V)}{vs:List (Key×ab)}{vals:List ab},KV kvs vs->vals.length=vs.length->(∀(j:Nat) (v:ab),vals[j]?=some v->∃(k:Key) (x:ab),vs[j]?=some (k,x)/\dXu k v=true)->Vals (kvs.map λp=>kV p.1) vals
 |[],_,vals,.nil,hl,_=>by cases vals with
  |nil=>exact .nil
  |cons _ _=>simp at hl
 |p::kvs,_,vals,.cons (b:=q) D B,hl,h=>by
  cases vals with
  |nil=>simp at hl
  |cons v vals =>
   refine .cons ?_ (bJr B (by simpa using hl) λj v e=>by simpa using h (j+1) v (by simpa using e))
   obtain⟨k,x,e,G⟩:=h 0 v rfl;have J:q=(k,x):=by simpa using e
   have z:p.1=k:=by rw[D.1,J]
   show RelV (kV p.1) v;rw[z];rcases aQn G with⟨i,t,rfl,rfl⟩|⟨y,t,rfl,rfl⟩
   ·exact⟨t,rfl⟩
   ·exact⟨t,rfl⟩
theorem Inv.toks{σ:St}(I:Inv X pins σ H s){h':bb}(k:∀b o,s.heap.get? b=some o->h'.get? b=some o)(d:Drawn)(tk:Nat):Inv X pins σ H {s with heap:=h',drawn:=d,toks:=tk}:=(I.kept k).drawn d
theorem Inv.src{σ:St}(I:Inv X pins σ H s)(hK:X.K=K){x:V}{u:ab}{us:List V}(h:Src K H x us)(r:RelV x u):Col X.prog X.w s u (λvals=>Vals us vals)/\us.length<=sizeLine:=by
 subst hK;obtain⟨a,rfl,h⟩:=h;cases r;rcases h with h|h|⟨G,h,rfl⟩
 ·obtain⟨J,z,⟨o,n,O,U,_,hd⟩,B⟩:=I.list h;have hl:=z.length;exact⟨λA E R D q=>dZ8 (.inl rfl) O U hd (by lia) A E R D λvals h' d j e k=>q vals h' d j (by rw[e];exact z) k,B⟩
 ·obtain⟨J,z,⟨o,O,U,n,hd⟩,B⟩:=I.tuple h;have hl:=z.length;exact⟨λA E R D q=>dZ8 (.inr rfl) O U hd (by lia) A E R D λvals h' d j e k=>q vals h' d j (by rw[e];exact z) k,B⟩
 ·obtain⟨B,lo,vs,Y,hd⟩:=I.hok a _ h;have hl:=bL Y;exact⟨λA E R D q=>dJo lo hd (by lia) A E R D λvals h' d j e k=>q vals h' d j (bJr Y e.1 e.2) k,by rw[ah];exact B⟩
def fJq(K:Fg):List V->Hp->VK->Prop:=λxs H Q=>∃(x:V) (ss:List Str),xs=[x]/\Src K H x (ss.map V.str)/\∀(p:Addr) (out:List Str),H p=none->out.Perm ss->out.Pairwise (λa b=>HT.ltS b a=false)->Q (.ref p) (upd H p (.lst (out.map V.str)))
theorem bZs:∀{l:List Str},sortedS l=true->l.Pairwise λa b=>HT.ltS b a=false
 |[],_=>.nil
 |[x],_=>bj _ _
 |x::y::l,h=>by
  have h':(!ltCps y.cps.toList x.cps.toList&&risingS y l)=true:=h;rw[aV] at h';have J:=bZs (l:=y::l) h'.2;have D:HT.ltS y x=false:=by
   have:=h'.1
   rw[dg,ltCps_eq] at this;exact this
  refine aN.mpr ⟨λz G=>?_,J⟩;rcases av.mp G with rfl|G
  ·exact D
  ·have j:=(aN.mp J).1 z G;cases e:HT.ltS z x with
   |false=>rfl
   |true =>
    by_cases B:y=x
    ·subst B;rw[j] at e;cases e
    ·have:=HT.ltS_tot D B
     have:=HT.ltS_tr e this
     rw[j] at this;cases this
theorem dZb(hK:X.K=K:=by rfl)(hc:X.calm=true:=by rfl):CallR X (.builtin "sorted") (fJq K):=by
 intro pins s σ H xs us Q I r h;obtain⟨x,ss,rfl,hs,q⟩:=h;obtain⟨u,rfl,G⟩:=aX3 r;obtain⟨col,z⟩:=I.src hK hs G;have len:∀{vals:List ab},Vals (ss.map V.str) vals->vals.length=ss.length:=λv=>by have:=v.length;simpa using this.symm
 refine aJo (I.ok.hd hc) col (λvals v=>by rw[len v];simpa using z) λvals h1 d j pv kp=>?_
 have D:=(I.toks kp d j).hok.fresh (Nat.le_refl _);refine dZ9 (aq _ rfl) (dQu (H:=H) (ds:=ss) (by
  clear z q hs col G pv len
  induction ss with
  |nil=>exact .nil
  |cons a ss J=>exact .cons rfl J) pv) (by rw[len pv];simpa using z) λout B h' c a1 a2 Y U O=>⟨rfl,?_⟩
 have Z:=I.toks kp d j;obtain⟨v1,v2⟩:=bXb (H:=H) a1;refine⟨.ref h1.objs.size,_,Z.laid (o:=.lst (B.map V.str)) (λb o e=>O b o (Nat.ne_of_lt (aC e)) (ae _ e)) (Nat.le_refl _) ⟨?_,out,c,v1,U⟩,rfl,q _ _ D a2 (bZs Y)⟩
 have:=a2.length_eq
 rw[ah,this];simpa using z
def fJr(K:Fg):List V->Hp->VK->Prop:=λxs H Q=>∃(x:V) (ns:List Int),xs=[x]/\Src K H x (ns.map V.int)/\∀(p:Addr) (out:List Int),H p=none->out.Perm ns->out.Pairwise (·<=·)->Q (.ref p) (upd H p (.lst (out.map V.int)))
theorem dZc(hK:X.K=K:=by rfl)(hc:X.calm=true:=by rfl):CallR X (.builtin "sorted") (fJr K):=by
 intro pins s σ H xs us Q I r h;obtain⟨x,ss,rfl,hs,q⟩:=h;obtain⟨u,rfl,G⟩:=aX3 r;obtain⟨col,B⟩:=I.src hK hs G;have len:∀{vals:List ab},Vals (ss.map V.int) vals->vals.length=ss.length:=λv=>by have:=v.length;simpa using this.symm
 refine aJo (I.ok.hd hc) col (λvals v=>by rw[len v];simpa using B) λvals h1 d j pv kp=>?_
 have D:=(I.toks kp d j).hok.fresh (Nat.le_refl _);refine dZa (aq _ rfl) (bZi pv) (by rw[len pv];simpa using B) λout z h' c a1 a2 U O J=>⟨rfl,?_⟩
 have Y:=I.toks kp d j;refine⟨.ref h1.objs.size,_,Y.laid (o:=.lst (z.map V.int)) (λb o e=>J b o (Nat.ne_of_lt (aC e)) (ae _ e)) (Nat.le_refl _) ⟨?_,out,c,bQc a1,O⟩,rfl,q _ _ D a2 U⟩
 have:=a2.length_eq
 rw[ah,this];simpa using B
def fJs(K:Fg):List V->Hp->VK->Prop:=λxs H Q=>∃(x:V) (us:List V) (ds:List (List Str)),xs=[x]/\Src K H x us/\aZ (dT K dS H) us ds/\∀(p:Addr) (idx:List Nat),H p=none->idx.Perm (a4 us.length)->(idx.map λi=>ds.getD i []).Pairwise (λa b=>HT.lexS b a=false)->(idx.map λi=>ds.getD i []).Perm ds->Q (.ref p) (upd H p (.lst (idx.map λi=>us.getD i V.non)))
theorem tsOf{σ:St}(I:Inv X pins σ H s)(hK:X.K=K){h':bb}(k:∀b o,s.heap.get? b=some o->h'.get? b=some o):∀{us:List V}{vs:List ab}{ds:List (List Str)},Vals us vs->aZ (dT K dS H) us ds->aZ (KS.TS h') vs ds
 |_,_,_,.nil,.nil=>.nil
 |_,_,_,.cons r q,.cons d p=>by
  refine .cons ?_ (tsOf I hK k q p);obtain⟨b,xs,e,B,pp⟩:=d;rw[e] at r;cases r;rw[<- hK] at B;obtain⟨j,D,⟨o,G,z⟩,_⟩:=I.tuple B;exact⟨b,j.toArray,rfl,⟨o,k b o G,z⟩,aXt pp D⟩
theorem cZt(p:Vals us vs):∀(idx:List Nat),(∀i∈idx,i<us.length)->Vals (idx.map λi=>us.getD i V.non) (idx.map λi=>vs.getD i bZ)
 |[],_=>.nil
 |i::idx,h=>by
  refine .cons ?_ (cZt p idx λj z=>h j (ak _ z));have hi:=h i ai;obtain⟨u,e,r⟩:=p.get (af hi);show RelV (us.getD i V.non) (vs.getD i bZ);rw[aj,aj,e,af hi];exact r
theorem dZd(hu:X.A.units+8<bN)(hK:X.K=K:=by rfl)(hc:X.calm=true:=by rfl):CallR X (.builtin "sorted") (fJs K):=by
 intro pins s σ H xs us Q I r h;obtain⟨x,ys,ds,rfl,hs,O,q⟩:=h;obtain⟨u,rfl,U⟩:=aX3 r;obtain⟨col,hz⟩:=I.src hK hs U;have hl:=bL O;refine aJo (I.ok.hd hc) col (λvals v=>by rw[<- v.length];exact hz) λvals h1 d j pv kp=>?_
 have B:=pv.length;have J:=I.toks kp d j;have G:=J.hok.fresh (Nat.le_refl _);refine KS.sort_tupsL (by lia) (aq _ rfl) (tsOf J hK (λb o e=>ae _ e) pv O) (by lia) λidx h' c z i2 Z g Y=>⟨rfl,?_⟩
 have D:∀i∈idx,i<ys.length:=λi hi=>by have:=bf.mp (z.mem_iff.mp hi);lia
 have il:idx.length=vals.length:=by have:=z.length_eq;simpa using this
 refine⟨.ref h1.objs.size,_,J.laid (o:=.lst (idx.map λi=>ys.getD i V.non)) (λb o e=>Y b o (Nat.ne_of_lt (aC e)) (ae _ e)) (Nat.le_refl _) ⟨?_,_,c,cZt pv idx D,g⟩,rfl,q _ idx G (by rw[B];exact z) i2 Z⟩
 rw[ah];lia
end
section
variable{κ:Type}[DecidableEq κ]
def valV(kvs:List (κ×V))(k:κ):Option V:=(kvs.find? λkv=>decide (kv.1=k)).map (·.2)
def putK(kvs:List (κ×V))(k:κ)(v:V):List (κ×V) :=
 if (kvs.any λkv=>decide (kv.1=k))=true then kvs.map (λkv=>if kv.1=k then (kv.1,v) else kv) else kvs++[(k,v)]
theorem bXj{r:List (κ×V)}{k:κ}(e:p.1=k):valV (p::r) k=some p.2:=by simp[valV,dq,e]
theorem bXk{r:List (κ×V)}{k:κ}(e:¬ p.1=k):valV (p::r) k=valV r k:=by simp[valV,dq,e]
theorem cZu(k:κ):∀kvs:List (κ×V),(kvs.any λkv=>decide (kv.1=k))=(valV kvs k).isSome
 |[]=>rfl
 |p::r=>by
  rw[jI]
  by_cases e:p.1=k
  ·simp only[bXj e,decide_eq_true e,Bool.true_or,i8]
  ·rw[bXk e,decide_eq_false e,Bool.false_or];exact cZu k r
theorem cQr(kvs:List (κ×V))(k:κ)(v:V):(putK kvs k v).length<=kvs.length+1:=by
 unfold putK
 split
 ·rw[ah];lia
 ·rw[au,az,cg];lia
theorem RelO.isSome_eq(r:RelO o u):o.isSome=u.isSome:=by
 cases o with
 |none=>cases u with
  |none=>rfl
  |some _=>exact(r).elim
 |some _=>cases u with
  |none=>exact(r).elim
  |some _=>rfl
theorem RelO.getD(r:RelO o u)(rd:RelV d d'):RelV (o.getD d) (u.getD d'):=by
 cases o with
 |none=>cases u with
  |none=>exact rd
  |some _=>exact(r).elim
 |some _=>cases u with
  |none=>exact(r).elim
  |some _=>exact r
end
section
variable{X:Cx}{pins:List (Addr×Obj)}{σ:St}{H:Hp}{s:ag}{a:Addr}{y v:V}{u r:ab}{o:Option V}{A:aU}{E:ab->ag->Prop}
theorem Inv.big(I:Inv X pins σ H s):fk<s.heap.objs.size:=by
 have h:=(I.mod.glob.keeps I.bk).lt;exact Nat.lt_trans (by decide) h
theorem dZe(I:Inv X pins σ H s)(mu:Mut (H a))(hs:dj a s.heap h')(he:∃q,h'.get? a=some q)(new:ObjOk X.prog X.w (upd H a ob) h' a ob) :
  Inv X pins σ (upd H a ob) {s with heap:=h',toks:=t'} :=
 I.write mu (.inl rfl) (λb q j z=>(hs.2 b j).trans z) he new
end
structure M2(X:Cx)(o:Expr)(m:Str)(apos:Pos)(e f:Expr)(cpos:Pos):Prop where
 base:gH o m X.env (eval o X.env)=eval o X.env
 few:((cM cpos (aD [e,f] X.env)).all (λx=>!x.1) && (kB cpos (iJ [] X.env)).all (λx=>x.1.isSome)
  && decide (([e,f]:List Expr).length+([]:List j5).length+(if ([]:List j5).isEmpty then 0 else 1)<30))=true
 line:(apos.endLine==cpos.line)=true
 trees:cM cpos (aD [e,f] X.env)=[(false,eval e X.env),(false,eval f X.env)]
section
variable{X:Cx}{K:Fg}{pos:Pos}{k:Nat}
section
variable{elt target iter:Expr}{ifs:List Expr}{gs:List ft}{scope:Scope}{N':List Str}{is:List (Option Nat)}{wi:ID}{g:TG}{gd:GD}{tt:TD}{tv:Addr->TB}{tb:BD}{oc:Option Str}{m:ab->Env->Sem Unit}{b:Bool}
theorem aZ5(L L':List Nat)(hcalm:X.calm=true)(hN:X.N.Nodup)
  (hturn:∀it acc env,eA (.ListComp elt (⟨target,iter,ifs,0⟩::gs) scope pos) 0 it acc env=aQr target ifs iter.pos (m acc env) (.compLoop (.ListComp elt (⟨target,iter,ifs,0⟩::gs) scope pos) 0 it acc env) it env)
  (cp:Cap X.N scope N' is) (hL:∀σ,Free L (capt is σ)) (hi:PID K X target iter wi) (hgd:CG K L L' g gd)
  (hg:∀cl C fp s H,PG (aQ9 X N' scope cl C fp s H oc) target g) (ht:∀cl C fp s H,PTs (aQ9 X N' scope cl C fp s H oc) ifs (upT K tt)) (hbd:bQp K L' tv tb) (hb:∀cl C fp s H D,PB (aQ9 X N' scope cl C fp s H oc) (m (.ref D) (hU scope cl C X.env)) (tv D))
  (hcf:∀n acc,eR n scope.names acc=ocl oc n acc:=by intro _ _;rfl) (hpc:∀h,gp h scope.names=ohp oc h:=by intro _;rfl)
  (hkind:scope.kind=.function:=by rfl) (hcell:∀y∈scope.names,y.2=.cell->oc=some y.1:=by decide +kernel)
  (hu:∀y∈scope.names,scope.names.lookup y.1=some y.2:=by decide +kernel) (hoc:∀x,oc=some x->scope.names.lookup x=some .cell:=by intro x h;cases h <;> rfl)
  (hVb:okV scope.names X.env.scope.names=true:=by first|rfl|kernel_rfl)
  (hs:∀x,cy iter X.env x=pure x:=by intro _;rfl) :
  PD K X (.ListComp elt (⟨target,iter,ifs,0⟩::gs) scope pos) (eJr b is wi gd tt tb):=.of (dJ5 hcalm hN hturn cp hi.o hg ht hb hcf hpc hkind hcell hu hoc hVb hs) (dZ7 hL hgd hbd)
theorem aJp{pos' spos:Pos}(hix:X.N[i]?=some x)(hx:Loc X.env.scope x)(L L':List Nat)(hcalm:X.calm=true)(hN:X.N.Nodup)
  (hturn:∀it acc env,eA (.ListComp elt (⟨target,iter,ifs,0⟩::gs) scope pos) 0 it acc env=aQr target ifs iter.pos (m acc env) (.compLoop (.ListComp elt (⟨target,iter,ifs,0⟩::gs) scope pos) 0 it acc env) it env)
  (cp:Cap X.N scope N' is) (hL:∀σ,Free L (capt is σ)) (hi:PID K X target iter wi) (hgd:CG K L L' g gd)
  (hg:∀cl C fp s H,PG (aQ9 X N' scope cl C fp s H oc) target g) (ht:∀cl C fp s H,PTs (aQ9 X N' scope cl C fp s H oc) ifs (upT K tt)) (hbd:bQp K L' tv tb) (hb:∀cl C fp s H D,PB (aQ9 X N' scope cl C fp s H oc) (m (.ref D) (hU scope cl C X.env)) (tv D))
  (hcf:∀n acc,eR n scope.names acc=ocl oc n acc:=by intro _ _;rfl) (hpc:∀h,gp h scope.names=ohp oc h:=by intro _;rfl)
  (hkind:scope.kind=.function:=by rfl) (hcell:∀y∈scope.names,y.2=.cell->oc=some y.1:=by decide +kernel)
  (hu:∀y∈scope.names,scope.names.lookup y.1=some y.2:=by decide +kernel) (hoc:∀x,oc=some x->scope.names.lookup x=some .cell:=by intro x h;cases h <;> rfl)
  (hVb:okV scope.names X.env.scope.names=true:=by first|rfl|kernel_rfl)
  (hs:∀x,cy iter X.env x=pure x:=by intro _;rfl)
  (hsw:iq (.ListComp elt (⟨target,iter,ifs,0⟩::gs) scope pos) (some (.Name x pos')) spos.line X.env=pure true:=by first|rfl|kernel_rfl) (hf:X.fn x=true\/X.env.scope.names.lookup x=some .local:=by first|exact .inl rfl|exact .inr rfl|assumption) :
  PSD K X (.Assign [.Name x pos'] (.ListComp elt (⟨target,iter,ifs,0⟩::gs) scope pos) spos) (dAsg (eJr b is wi gd tt tb) (aQx i)):=.of (eXl hix hx hcalm hN hturn cp hi.o hg ht hb hcf hpc hkind hcell hu hoc hVb hs hsw hf) λU σ H B=>B.el λF S Γ E r z q c=>by
 refine dZ7 hL hgd hbd σ H _ ⟨F,S,Γ,_,r,z,q,λv d H1 O j G v1 J=>?_⟩;exact c.nx _ O _ H1 j G ((z.ext j).set v1 i) J
end
def dCut(t u:SD):SD:=λE Γ S=>∃M:Gm->Sto->Prop,t {E with nx:=M} Γ S/\∀Γ' S',M Γ' S'->u E Γ' S'
theorem bQr{st:Stmt}(h1:PSD K X st t)(h2:PSsD K X rest u):PSsD K X (st::rest) (dCut t u):=.of (cZ4 h1.o h2.o) λJ σ H ⟨F,S,Γ,E,r,g,⟨M,q,G⟩,c⟩ =>
 ⟨F,S,Γ,{E with nx:=M},r,g,q,fun Γ1 j σ1 H1 z B g1 D=>⟨F,j,Γ1,E,B,g1,G Γ1 j D,c.ext z⟩,c.rt,c.bk,c.ct⟩
abbrev SpD:=List D->Sto->DK->Prop
def spU(K:Fg)(sp:SpD):Sp:=λvs H Q _=>∃F S ds QD,Rp K F S H/\RepL K (mt S F) H ds vs/\sp ds S QD/\Cn K F S H QD Q
theorem aQ5{x:Str}{ps:List Str}{sp:SpD}{p:Pos}{e:Expr}{es:List Expr}{t:AD}(Df':Df X.prog X.w X.K X.mg X.base k x ps (spU K sp))(hr:Room k X.A)(hg:Gl X x)(ha:PAD K X (e::es) t)
  (hdb:(x==("__debug__":Str))=false:=by decide) (he:aD (e::es) X.env=(false,eval e X.env)::aD es X.env:=by rfl) (hpl:(cM pos (aD es X.env)).any (·.1)=false:=by rfl) :
  PD K X (.Call (.Name x p) (e::es) [] pos) (dCB sp t):=.of (dJ4 Df' hr hg ha.o hdb he hpl) fun σ H Q j=>j.el λF S Γ QD r g q c =>
 ⟨F,S,Γ,_,r,g,q,λvs ds H1 G z B v1 D=>by
  show spU K sp (vs++[]) H1 Q E0;rw[ce];exact⟨F,G,ds,QD,B,v1,D,Cn.shift c z⟩⟩
inductive Frz(S S':Sto):D->D->Prop where
 |same (d:D):Frz S S' d d
 |ref {a:Addr}{xs ys:List D}(h:S a=some (.lst xs)) (h':S' a=none) (l:Frz S S' (.tup xs) (.tup ys)):Frz S S' (.ref a) (.lst ys)
 |nil:Frz S S' (.tup []) (.tup [])
 |cons {d e:D}{ds es:List D}(h:Frz S S' d e) (l:Frz S S' (.tup ds) (.tup es)):Frz S S' (.tup (d::ds)) (.tup (e::es))
theorem dZf(r:Rp K F S H)(hs:∀a o,S' a=some o->S a=some o):∀{d e:D},Frz S S' d e->(∀v,RepV K (mt S F) H d v->RepV K (mt S' F) H e v)/\(∀ds es,d=.tup ds->e=.tup es->∀vs,RepL K (mt S F) H ds vs->RepL K (mt S' F) H es vs):=by
 intro d e h;have kp:Keep (mt S F) H (mt S' F) H:=(Ext.less hs).kp
 induction h with
 |same d=>exact⟨λv h=>h.keep kp,λds es e1 e2 vs l=>by cases e1;cases e2;exact l.keep kp⟩
 |@ref a xs ys h h' l Y =>
  refine⟨λv j=>?_,λds es e1=>by cases e1⟩
  rw[rref j];obtain⟨us,Z,O⟩:=r.obj a _ h;refine⟨a,us,rfl,.inl ⟨λz=>?_,.inl Z⟩,Y.2 xs ys rfl rfl us O⟩;rcases z with z|z
  ·exact z h'
  ·rw[(r.frm a z).2] at h;cases h
 |nil=>exact⟨λv h=>h.keep kp,λds es e1 e2 vs l=>by cases e1;cases e2;exact l.keep kp⟩
 |@cons d e ds es h l G B =>
  have ls:∀vs,RepL K (mt S F) H (d::ds) vs->RepL K (mt S' F) H (e::es) vs:=λvs l=>by
   obtain⟨v,vs,rfl,J,U⟩:=l;exact⟨v,vs,rfl,G.1 v J,B.2 ds es rfl rfl vs U⟩
  refine⟨λv j=>?_,λds' es' e1 e2 vs l=>by cases e1;cases e2;exact ls vs l⟩
  obtain⟨a,us,rfl,t,l⟩:=j;exact⟨a,us,rfl,t.keep kp,ls us l⟩
def rtD(Q:DK):DK:=λd S=>∃d' S',(∀a o,S' a=some o->S a=some o)/\Frz S S' d d'/\Q d' S'
theorem aQ7(h:Q d S):rtD Q d S:=⟨d,S,λ_ _ e=>e,.same d,h⟩
theorem eJs(hs:∀a o,S' a=some o->S a=some o)(h:Q d S'):rtD Q d S:=⟨d,S',hs,.same d,h⟩
theorem eZ9(h:S a=some (.lst xs))(hs:∀a o,S' a=some o->S a=some o)(h':S' a=none)(q:Q (.lst xs) S'):rtD Q (.ref a) S:=⟨.lst xs,S',hs,.ref h h' (.same _),q⟩
def cJ5(Q:DK):EndsD:={nx:=λ_ S=>rtD Q .non S,rt:=rtD Q}
def aJv(N:List Str)(ds:List D):Gm:=ds.map some++i5 (N.length-ds.length) none
theorem bXl(l:RepL K M H ds vs):RepG K M H (aJv N ds) (start N vs):=by
 have j:∀n,RepG K M H (i5 n none) (i5 n none):=λn=>by
  induction n with
  |zero=>exact rfl
  |succ n z=>exact⟨none,_,rfl,z⟩
 have gen:∀{ds:List D}{vs:List V}{g:Gm}{σ:St},RepL K M H ds vs->RepG K M H g σ->RepG K M H (ds.map some++g) (vs.map some++σ):=by
  intro ds
  induction ds with
  |nil=>intro vs g σ l h;subst l;exact h
  |cons d ds z =>
   intro vs g σ l h;obtain⟨v,vs,rfl,r,l⟩:=l;exact⟨v,_,rfl,r,z l h⟩
 unfold aJv start;rw[l.length];exact gen l (j _)
theorem aZ9{st:Stmt}(T:Tx K mg x st)(S:FnScope N ps (aQ3 st))
  (b:∀{f:Addr}{fd:dE},Fun K x x st f fd->Binds K fd ps []) (len:∀ds S Q,sp ds S Q->ds.length=ps.length)
  (h:∀ (f:Addr) (cdv:ab) (A:aU) (outer:List Env) (s:ag) (H:Hp) (E:XK),Room k (A.deeper (i6 x (aQ3 st) s.heap.objs.size f cdv)) ->
   ∃t,PSsD K (cxOf CX0 P w K mg base N x (aQ3 st) f cdv A outer s H E).nox (aZ6 st) t/\∀ds S Q,sp ds S Q->t (cJ5 Q) (aJv N ds) S):Df P w K mg base (k+1) x ps (spU K sp):=by
 refine T.df b λ{f fd} Z=>Z.ok S (λvs H Q E B=>by obtain⟨F,S,ds,QD,r,l,j,c⟩:=B;rw[l.length];exact len ds S QD j) (λcdv A outer s H vs Q E' J B=>?_)
 obtain⟨F,S,ds,QD,r,l,j,c⟩:=B;obtain⟨t,h1,h2⟩:=h f cdv A outer s H E' J;have fin:∀v d H' S',Ext S H S' H'->Rp K F S' H'->RepV K (mt S' F) H' d v->rtD QD d S'->Q v H':=λv d H' S' D z v1 G=>by
  obtain⟨U,Y,hs,O,q⟩:=G;exact c v U H' Y (D.trans (Ext.less hs)) (z.less hs) ((dZf z hs O).1 v v1) q
 exact⟨_,h1.o,F,S,aJv N ds,cJ5 QD,r,bXl l,h2 ds S QD j,fun Γ' S' σ' H' D z g1 q=>fin .non .non H' S' D z (by rfl) q,fin,λ_ _ _ _ _ _ _ q=>q.elim,λ_ _ _ _ _ _ _ q=>q.elim⟩
theorem fJt:∀{as:List Int},RepL K M H (as.map D.int) (as.map V.int)
 |[]=>RepL.nil
 |a::as=>RepL.cons (by rfl) fJt
def dMt(rd:D->List D->Sto->DK->Prop)(ck:D->Sto->Prop)(to:ED)(t:AD):ED:=fun Γ S Q=>to Γ S λo S1=>ck o S1/\t Γ S1 λds S2=>rd o ds S2 Q
def MtD(K:Fg)(T:String)(r:V->List V->Hp->VK->Prop)(rd:D->List D->Sto->DK->Prop)(ck:D->Sto->Prop):Prop :=
 (∀F S H d x,Rp K F S H->RepV K (mt S F) H d x->ck d S->tyV K T x H)/\∀F S H d ds x vs Q QD,Rp K F S H->RepV K (mt S F) H d x->RepL K (mt S F) H ds vs->rd d ds S QD->Cn K F S H QD Q->r x vs H Q
theorem e_bm{T id:String}{name:Str}{r:V->List V->Hp->VK->Prop}{rd:D->List D->Sto->DK->Prop}{ck:D->Sto->Prop}{o e:Expr}{es:List Expr}{to:ED}{t:AD}{apos cpos:Pos}(M:MtD K T r rd ck)
  (pa:PlainAttrs T) (slot:Slot T name id) (hty:typeOf (.builtin id)=pure (.type "method_descriptor")) (hm:MtR X id r) (ho:PD K X o to) (ha:PAD K X (e::es) t) (hK:X.K=K:=by rfl)
  (hbase:gH o name X.env (eval o X.env)=eval o X.env:=by rfl)
  (hfew:((cM cpos (aD (e::es) X.env)).all (λx=>!x.1) && (kB cpos (iJ [] X.env)).all (λx=>x.1.isSome)
   && decide ((e::es).length+([]:List j5).length+(if ([]:List j5).isEmpty then 0 else 1)<30))=true:=by rfl)
  (hline:(apos.endLine==cpos.line)=true:=by rfl) (hs:aD (e::es) X.env=(false,eval e X.env)::aD es X.env:=by rfl) (hplain:(cM cpos (aD es X.env)).any (·.1)=false:=by rfl) :
  PD K X (.Call (.Attribute o name apos) (e::es) [] cpos) (dMt rd ck to t):=by
 subst hK;exact .of (gZp pa slot hty hm ho.o ha.o hbase hfew hline hs hplain) fun σ H Q J=>J.el λF S Γ QD r g q c =>
  ⟨F,S,Γ,_,r,g,q,λv d H1 G z B v1 ⟨Z,Y⟩=>⟨M.1 F G H1 d v B v1 Z,F,G,Γ,_,B,g.ext z,Y,λvs ds H2 S2 j O v2 U=>M.2 F S2 H2 d ds v vs Q QD O (v1.ext j) v2 U (Cn.shift c (z.trans j))⟩⟩
def ckL(d:D)(S:Sto):Prop:=match d with
 |.ref a=>∃xs,S a=some (.lst xs)
 |_=>False
theorem ty_L(r:Rp K F S H)(h:RepV K (mt S F) H d x)(c:ckL d S):tyV K "list" x H:=by
 cases d with
 |ref a =>
  obtain⟨xs,j⟩:=c;rw[rref h];obtain⟨us,z,_⟩:=r.obj a _ j;exact .inl ⟨rfl,us,SqL.of z⟩
 |_=>exact c.elim
theorem Cn.write(c:Cn K F S H QD Q)(r:Rp K F S H){a:Addr}{xs ys:List D}{us ws:List V}(hS:S a=some (.lst xs))(l:RepL K (mt S F) H ys ws){d:D}{v:V}(hv:RepV K (mt S F) H d v)(q:QD d (supd S a (.lst ys))):Q v (upd H a (.lst ws)):=by
 have j:S a≠none:=by rw[hS];exact λz=>by cases z
 have x:Ext S H (supd S a (.lst ys)) (upd H a (.lst ws)):=Ext.write j;exact c v d _ _ x (r.write j ⟨ws,aQ6,l.ext x⟩) (hv.ext x) q
end
end L2
set_option maxHeartbeats 1000000
namespace L2
open PySem PySem.Spec PyProof.Rows
def leS(a b:Str):Bool:=!HT.ltS b a
def leT(a b:List Str):Bool:=!HT.lexS b a
theorem aZn:∀a:List Str,HT.lexS a a=false
 |[]=>rfl
 |x::xs=>by rw[HT.lexS_cons,if_pos rfl,aZn xs]
theorem fJu(a b c:Str)(h:leS a b=true)(h':leS b c=true):leS a c=true:=by
 unfold leS at *
 rw[dg] at *
 cases e:HT.ltS c a with
 |false=>rfl
 |true =>
  by_cases j:b=a
  ·subst j;rw[h'] at e;cases e
  ·have:=HT.ltS_tr e (HT.ltS_tot h j)
   rw[h'] at this;cases this
theorem eJt(a b:Str):(leS a b||leS b a)=true:=by
 unfold leS;cases e:HT.ltS b a with
 |false=>rfl
 |true=>rw[HT.ltS_as e];rfl
theorem dJp(h:leS a b=true)(h':leS b a=true):a=b:=by
 unfold leS at *
 rw[dg] at *
 exact aI λn=>by
  have:=HT.ltS_tot h (λz=>n z.symm)
  rw[h'] at this;cases this
theorem fJv(a b c:List Str)(h:leT a b=true)(h':leT b c=true):leT a c=true:=by
 unfold leT at *
 rw[dg] at *
 cases e:HT.lexS c a with
 |false=>rfl
 |true =>
  by_cases j:b=a
  ·subst j;rw[h'] at e;cases e
  ·have:=HT.lexS_tr e (HT.lexS_tot h j)
   rw[h'] at this;cases this
theorem eJu(a b:List Str):(leT a b||leT b a)=true:=by
 unfold leT;cases e:HT.lexS b a with
 |false=>rfl
 |true=>rw[HT.lexS_as e];rfl
theorem dJq(h:leT a b=true)(h':leT b a=true):a=b:=by
 unfold leT at *
 rw[dg] at *
 exact aI λn=>by
  have:=HT.lexS_tot h (λz=>n z.symm)
  rw[h'] at this;cases this
def srS(l:List Str):List Str:=l.mergeSort leS
def srT(l:List (List Str)):List (List Str):=l.mergeSort leT
def srI(l:List Int):List Int:=l.mergeSort λa b=>decide (a<=b)
theorem aXf(l:List Str):(srS l).Perm l:=iP _ _
theorem aXg(l:List (List Str)):(srT l).Perm l:=iP _ _
theorem dJr(l:List Int):(srI l).Perm l:=iP _ _
theorem eZa(l:List Str):(srS l).Pairwise λa b=>leS a b=true:=gY fJu eJt l
theorem eZb(l:List (List Str)):(srT l).Pairwise λa b=>leT a b=true:=gY fJv eJu l
theorem fJw(l:List Int):(srI l).Pairwise λa b=>decide (a<=b)=true:=gY (le:=λa b=>decide (a<=b)) (λa b c h h'=>decide_eq_true (Int.le_trans (of_decide_eq_true h) (of_decide_eq_true h'))) (λa b=>by
 rcases Int.le_total a b with h|h
 ·rw[decide_eq_true h];rfl
 ·rw[decide_eq_true h,Bool.or_true]) l
theorem fJx(p:out.Perm l)(h:out.Pairwise λa b=>HT.ltS b a=false):out=srS l :=
 (p.trans (aXf l).symm).eq_of_pairwise (λ_ _ _ _ h h'=>dJp h h') (h.imp λh=>by unfold leS;rw[h];rfl) (eZa l)
theorem eJv(p:out.Perm l)(h:out.Pairwise λa b=>HT.lexS b a=false):out=srT l :=
 (p.trans (aXg l).symm).eq_of_pairwise (λ_ _ _ _ h h'=>dJq h h') (h.imp λh=>by unfold leT;rw[h];rfl) (eZb l)
theorem fJy{l out:List Int}(p:out.Perm l)(h:out.Pairwise (·<=·)):out=srI l :=
 (p.trans (dJr l).symm).eq_of_pairwise (λ_ _ _ _ h h'=>Int.le_antisymm (of_decide_eq_true h) (of_decide_eq_true h')) (h.imp λh=>decide_eq_true h) (fJw l)
section
variable{X:Cx}{K:Fg}{pos:Pos}{k:Nat}{e:Expr}{t:AD}{p:Pos}
def rSum(K:Fg):List V->Hp->VK->Prop:=λxs H Q=>∃(x:V) (ns:List Int),xs=[x]/\(∃a,x=.ref a/\SqL K H a (ns.map V.int))/\Q (.int ns.sum) H
theorem dJs(hK:X.K=K:=by rfl)(hc:X.calm=true:=by rfl):CallR X (.builtin "sum") (rSum K):=by
 subst hK;intro pins s σ H xs us Q I r h;obtain⟨x,ns,rfl,⟨a,rfl,sq⟩,q⟩:=h;obtain⟨u,rfl,rx⟩:=aX3 r;cases rx;obtain⟨D,B,pl,J⟩:=I.list sq;have hi:=bZi B;obtain⟨xs,j⟩:=hi.allInts.items;have hl:=pl.isList;rw[j] at hl;refine sum_intListG (I.ok.hd hc) hl λh' z t' G=>?_;have e:preSum (numAt xs) xs.size=ns.sum:=by
  have h1:numsOf (intItems xs).toList=ns:=by rw[<- j];exact hi.numsOf
  rw[nums_intItems] at h1;rw[preSum_eq,bQ (by simp),h1]
 rw[e];exact⟨.int ns.sum,H,I.kept G,⟨t',rfl⟩,q⟩
theorem cQs:∀{as:List Int}{xs:List V},RepL K M H (as.map D.int) xs->xs=as.map V.int
 |[],xs,h=>by rw[fJ] at h;exact h
 |a::as,xs,h=>by
  rw[aL] at h;obtain⟨v,vs,rfl,r,l⟩:=h;rw[r,cQs l];rfl
theorem dZg:∀{as:List Int},RepL K M H (as.map D.int) (as.map V.int)
 |[]=>RepL.nil
 |a::as=>RepL.cons (by rfl) dZg
theorem dZh:∀{as:List Str}{xs:List V},RepL K M H (as.map D.str) xs->xs=as.map V.str
 |[],xs,h=>by rw[fJ] at h;exact h
 |a::as,xs,h=>by
  rw[aL] at h;obtain⟨v,vs,rfl,r,l⟩:=h;rw[r,dZh l];rfl
theorem dZi:∀{as:List Str},RepL K M H (as.map D.str) (as.map V.str)
 |[]=>RepL.nil
 |a::as=>RepL.cons (by rfl) dZi
def sumD:RCD:=λds S Q=>match ds with
 |[d]=>∃ns:List Int,lsIs S d (ns.map D.int)/\Q (.int ns.sum) S
 |_=>False
theorem fJz(hg:Gl X "sum")(hm:X.mg "sum"=none)(ha:PAD K X [e] t)(hK:X.K=K:=by rfl)(hc:X.calm=true:=by rfl)(he:aD [e] X.env=(false,eval e X.env)::aD [] X.env:=by rfl)(hpl:(cM pos (aD [] X.env)).any (·.1)=false:=by rfl):PD K X (.Call (.Name "sum" p) [e] [] pos) (dCB sumD t):=aXu (dJs hK hc) (by
 intro F S H ds vs Q QD r l h c
 match ds,h with
 |[d],⟨ns,h1,q⟩ =>
  obtain⟨v,rfl,j⟩:=l.one;obtain⟨a,us,rfl,sq,z⟩:=lsIs.sl r j h1;rw[cQs z] at sq;exact⟨_,ns,rfl,⟨a,rfl,sq⟩,c.int r q⟩) hg hm fXa ha (by decide) (by decide) he hpl
def keyD:Key->D
 |.inl i=>.int i
 |.inr x=>.str x
def srcIs(S:Sto)(d:D)(xs:List D):Prop:=match d with
 |.tup ys=>xs=ys
 |.lst ys=>xs=ys
 |.ref a=>S a=some (.lst xs)\/∃kvs,S a=some (.dk kvs)/\xs=kvs.map λp=>keyD p.1
 |_=>False
theorem dZj:∀{ks:List (Key×V)}{kvs:List (Key×D)},aZ (λp q=>p.1=q.1/\RepV K M H q.2 p.2) ks kvs->RepL K M H (kvs.map λp=>keyD p.1) (ks.map λp=>kV p.1)
 |_,_,.nil=>RepL.nil
 |_,_,.cons (a:=a) (b:=b) h l=>by
  refine RepL.cons ?_ (dZj l);show RepV K M H (keyD b.1) (kV a.1);rw[h.1];cases b.1 <;> (rfl)
theorem srcIs.src(r:Rp K F S H){d:D}{v:V}{xs:List D}(h:RepV K (mt S F) H d v)(l:srcIs S d xs):∃us,Src K H v us/\RepL K (mt S F) H xs us:=by
 cases d with
 |tup ys=>cases l;obtain⟨a,us,rfl,sq,l⟩:=tup.st h;exact⟨us,⟨a,rfl,.inr (.inl sq)⟩,l⟩
 |lst ys=>cases l;obtain⟨a,us,rfl,sq,l⟩:=lsIs.sl r h (rfl);exact⟨us,⟨a,rfl,.inl sq⟩,l⟩
 |ref a =>
  rw[rref h];rcases l with l|⟨B,l,rfl⟩
  ·obtain⟨us,z,j⟩:=r.obj a _ l;exact⟨us,⟨a,rfl,.inl (SqL.of z)⟩,j⟩
  ·obtain⟨G,z,j⟩:=r.obj a _ l;exact⟨_,⟨a,rfl,.inr (.inr ⟨G,z,rfl⟩)⟩,dZj j⟩
 |_=>exact l.elim
def tupS(t:List Str):D:=.tup (t.map D.str)
def srtD(b:Bool):RCD:=λds S Q=>match ds with
 |[d]=>(∃ss:List Str,srcIs S d (ss.map D.str)/\newL b ((srS ss).map D.str) S Q)\/(∃ns:List Int,srcIs S d (ns.map D.int)/\newL b ((srI ns).map D.int) S Q) \/
  ∃ts:List (List Str),srcIs S d (ts.map tupS)/\newL b ((srT ts).map tupS) S Q
 |_=>False
def gXc(K:Fg):List V->Hp->VK->Prop:=λxs H Q=>fJq K xs H Q\/fJr K xs H Q\/fJs K xs H Q
theorem bXm:∀{ts:List (List Str)}{us:List V},RepL K (mt S F) H (ts.map tupS) us->aZ (dT K dS H) us ts
 |[],us,h=>by rw[fJ] at h;subst h;exact .nil
 |a::as,xs,h=>by
  rw[aL] at h;obtain⟨v,vs,rfl,r,l⟩:=h;exact .cons (cQp r) (bXm l)
theorem eZc(l:RepL K M H ds us):∀(idx:List Nat),(∀i∈idx,i<us.length)->RepL K M H (idx.map λi=>ds.getD i .non) (idx.map λi=>us.getD i .non)
 |[],_=>RepL.nil
 |i::idx,h=>by
  have hi:=h i ai;refine RepL.cons ?_ (eZc l idx λj z=>h j (ak _ z));obtain⟨d,B,rd⟩:=l.get' (af hi);show RepV K M H (ds.getD i .non) (us.getD i .non);rw[aj,aj,B,af hi];exact rd
theorem gQ0:bXd K (gXc K) (srtD b):=by
 intro F S H ds vs Q QD r l h c
 match ds,h with
 |[d],h =>
  obtain⟨v,rfl,D⟩:=l.one;rcases h with⟨ss,h1,q⟩|⟨ss,h1,q⟩|⟨ts,h1,q⟩
  ·obtain⟨us,hs,j⟩:=h1.src r D;rw[dZh j] at hs;exact .inl ⟨v,ss,rfl,hs,λp out z J G=>by
    rw[fJx J G];exact c.new r z dZi q⟩
  ·obtain⟨us,hs,j⟩:=h1.src r D;rw[cQs j] at hs;exact .inr (.inl ⟨v,ss,rfl,hs,λp out z J G=>by
    rw[fJy J G];exact c.new r z dZg q⟩)
  ·obtain⟨us,hs,j⟩:=h1.src r D;refine .inr (.inr ⟨v,us,ts,rfl,hs,bXm j,λp idx z Z Y U=>c.new r z ?_ q⟩);have hl:=j.length;rw[ah] at hl;have B:∀i∈idx,i<us.length:=λi hi=>bf.mp (Z.mem_iff.mp hi)
   have:=eZc j idx B
   rw[<- eJv U Y,bg];have e:(idx.map λi=>(ts.map tupS).getD i .non)=idx.map (tupS∘λi=>ts.getD i []):=fC λi hi=>by
    have O:i<ts.length:=by have:=B i hi;lia
    show(ts.map tupS).getD i .non=tupS (ts.getD i []);rw[aj,aj,aQ,af O]
    rfl
   rw[<- e];exact this
theorem bXn{b:Bool}(hr:Room k X.A)(hg:Gl X "sorted")(hm:X.mg "sorted"=none)(ha:PAD K X [e] t)(hK:X.K=K:=by rfl)(hc:X.calm=true:=by rfl)(he:aD [e] X.env=(false,eval e X.env)::aD [] X.env:=by rfl)(hpl:(cM pos (aD [] X.env)).any (·.1)=false:=by rfl):PD K X (.Call (.Name "sorted" p) [e] [] pos) (dCB (srtD b) t):=aXu ((dZb hK hc).or ((dZc hK hc).or (dZd (lt10 hr) hK hc))) gQ0 hg hm aJ1 ha (by decide) (by decide) he hpl
theorem eJw(hg:Gl X x)(hm:X.mg x=some (.str y tk))(hd:(x=="__debug__")=false:=by decide):PD K X (.Name x p) (dC (.str y)):=.of (eZx (v:=.str y) hg hm ⟨tk,rfl⟩ hd) (up_c λ_ _=>by rfl)
end
end L2
set_option maxHeartbeats 4000000
namespace L2
open PySem PySem.Spec PyProof.Rows
theorem md{a b:Int}(h:0<b):0<=a%b/\a%b<b:=⟨Int.emod_nonneg _ (by lia),Int.emod_lt_of_pos _ h⟩
theorem aJ6(I:Nat->List D->Sto->Prop)(h0:I 0 acc S)
  (hs:∀i x acc S (N:List D->Sto->Prop),xs[i]?=some x->I i acc S->(∀acc' S',I (i+1) acc' S'->N acc' S')->G S/\g x Γ0 S fun Γ2 S2=>tt Γ2 S2 λb S3=>if b=true then tb Γ2 S3 acc N else N acc S3)
  (hd:∀acc S,I xs.length acc S->G S/\Q acc S):aZd g tt tb G Γ0 xs acc S Q:=by
 have gen:∀n i acc S,i+n=xs.length->I i acc S->aZd g tt tb G Γ0 (xs.drop i) acc S Q:=by
  intro n
  induction n with
  |zero =>
   intro i acc S hi h;have e:i=xs.length:=by lia
   subst e;rw[gx];exact hd acc S h
  |succ n z =>
   intro i acc S hi h;have j:i<xs.length:=by lia
   rw[aX8 j];exact hs i xs[i] acc S (λacc' B=>aZd g tt tb G Γ0 (xs.drop (i+1)) acc' B Q) (af j) h λacc' S' h'=>z (i+1) acc' S' (by lia) h'
 simpa using gen xs.length 0 acc S (by lia) h0
theorem aZt(I:Nat->Gm->Sto->Prop)(h0:I 0 Γ S)
  (hs:∀i x Γ S (N:Gm->Sto->Prop),xs[i]?=some x->I i Γ S->(∀Γ' S',I (i+1) Γ' S'->N Γ' S')->G S/\g x Γ S fun Γ2 S2=>tb {E with nx:=N,ct:=N,bk:=E.nx} Γ2 S2)
  (hd:∀Γ S,I xs.length Γ S->G S/\E.nx Γ S):forD g tb G E xs Γ S:=by
 have gen:∀n i Γ S,i+n=xs.length->I i Γ S->forD g tb G E (xs.drop i) Γ S:=by
  intro n
  induction n with
  |zero =>
   intro i Γ S hi h;have e:i=xs.length:=by lia
   subst e;rw[gx];exact hd Γ S h
  |succ n z =>
   intro i Γ S hi h;have j:i<xs.length:=by lia
   rw[aX8 j];exact hs i xs[i] Γ S (forD g tb G E (xs.drop (i+1))) (af j) h fun Γ' S' h'=>z (i+1) Γ' S' (by lia) h'
 simpa using gen xs.length 0 Γ S (by lia) h0
theorem aZo{α:Type}{i:Nat}{te:ED}{Γ0:Gm}{S:Sto}{Q:List D->Sto->Prop}{enc:α->D}{f:α->D}{xs:List α}{acc:List D}(h:∀x∈xs,∀Q:DK,Q (f x) S->te (Γ0.set i (some (enc x))) S Q)(hn:acc.length+xs.length<=sizeLine)
  (q:Q (acc++xs.map f) S):aZd (aQx i) dYes (bXi te) (λ_=>True) Γ0 (xs.map enc) acc S Q:=by
 induction xs generalizing acc with
 |nil=>exact⟨trivial,by simpa using q⟩
 |cons x xs z =>
  refine⟨trivial,?_⟩;refine h x ai _ ⟨by simp at hn;lia,z (λy B=>h y (ak _ B)) (by simp at hn ⊢;lia) (by simpa using q)⟩
theorem aQm{α:Type}{i:Nat}{tt:TD}{te:ED}{Γ0:Gm}{S:Sto}{Q:List D->Sto->Prop}{enc:α->D}{p:α->Bool}{f:α->D}{xs:List α}{acc:List D}(ht:∀x∈xs,∀Q:Bool->Sto->Prop,Q (p x) S->tt (Γ0.set i (some (enc x))) S Q)(h:∀x∈xs,p x=true->∀Q:DK,Q (f x) S->te (Γ0.set i (some (enc x))) S Q)(hn:acc.length+xs.length<=sizeLine)
  (q:Q (acc++(xs.filter p).map f) S):aZd (aQx i) tt (bXi te) (λ_=>True) Γ0 (xs.map enc) acc S Q:=by
 induction xs generalizing acc with
 |nil=>exact⟨trivial,by simpa using q⟩
 |cons x xs z =>
  refine⟨trivial,?_⟩;refine ht x ai _ ?_;cases hp:p x with
  |true =>
   rw[if_pos rfl];refine h x ai hp _ ⟨by simp at hn;lia,z (λy j=>ht y (ak _ j)) (λy j=>h y (ak _ j)) (by simp at hn ⊢;lia) ?_⟩
   rw[cb,hp] at q;simpa using q
  |false =>
   rw[if_neg (by simp)]
   refine z (λy j=>ht y (ak _ j)) (λy j=>h y (ak _ j)) (by simp at hn ⊢;lia) ?_
   rw[cb,hp] at q;simpa using q
theorem cZv{α:Type}(f:α->D)(xs:List α)(lo hi:Option Int):cutD (xs.map f) lo hi=((xs.drop (HT.sIx xs.length 0 lo)).take (HT.sIx xs.length xs.length hi-HT.sIx xs.length 0 lo)).map f:=by
 unfold cutD;rw[ah,List.map_take,List.map_drop]
theorem cQt(f:α->β)(xs:List α)(i:Int):atI (xs.map f) i=(atI xs i).map f:=by
 unfold atI;rw[ah];cases ixN xs.length i with
 |none=>rfl
 |some j=>simp
theorem gQ1{xs:List α}{i:Int}(h0:0<=i)(h1:i<xs.length):∃(h:i.toNat<xs.length),atI xs i=some xs[i.toNat]:=by
 have h:i.toNat<xs.length:=by lia
 refine⟨h,?_⟩
 have:=aJe (af h)
 rwa [show(i.toNat:Int)=i by lia] at this
theorem eZd(h:(rngD 0 n)[i]?=some x):i<n/\x=.int i:=by
 obtain⟨h1,h2⟩:=bQ5 n 0 i x h;exact⟨h1,by rw[h2,Int.zero_add]⟩
section
variable{X:Cx}{K:Fg}{pos:Pos}
theorem dJt(r:Rp K F S H)(hp:H p=none)(rx:RepV K (mt S F) H d x)(ry:RepV K (mt S F) H e y):Ext S H S (upd H p (.tup [x,y]))/\Rp K F S (upd H p (.tup [x,y]))/\RepV K (mt S F) (upd H p (.tup [x,y])) (.tup [d,e]) (.ref p):=by
 have z:Ext S H S (upd H p (.tup [x,y])):=Ext.same (aQs hp);refine⟨z,r.same (aQs hp),?_⟩;exact⟨p,_,rfl,.inl ⟨r.nmt hp,.inl aQ6⟩,RepL.cons (rx.ext z) (RepL.cons (ry.ext z) RepL.nil)⟩
end
end L2
set_option maxHeartbeats 1000000
namespace L2
open PySem PySem.Spec PyProof.Rows
section
variable{X:Cx}{K:Fg}{pos:Pos}{k:Nat}{e:Expr}{te:ED}
def gXd(d:D)(S:Sto)(Q:DK):Prop:=(∃ts:List (List Str),d=.tup (ts.map tupS)/\ts.length+1<=300/\∀n:Nat,SzOk ts n->Q (.int n) S)\/∃ss:List Str,d=.lst (ss.map D.str)/\ss.length+1<=300/\∀n:Nat,SzOk ss n->Q (.int n) S
def gXe(te:ED):ED:=fun Γ S Q=>te Γ S λd S1=>gXd d S1 Q
theorem eZe{p p' pos':Pos}(hr:Room k X.A)(hg:Gl X "len")(hm:X.mg "len"=none)(hg':Gl X "set")(hm':X.mg "set"=none)(he:PD K X e te)(hK:X.K=K:=by rfl)(hc:X.calm=true:=by rfl)
  (h1:aD [e] X.env=(false,eval e X.env)::aD [] X.env:=by rfl) (h2:aD [Expr.Call (.Name "set" p') [e] [] pos'] X.env=(false,eval (Expr.Call (.Name "set" p') [e] [] pos') X.env)::aD [] X.env:=by rfl) (h3:(cM pos (aD [] X.env)).any (·.1)=false:=by rfl) (h4:(cM pos' (aD [] X.env)).any (·.1)=false:=by rfl) :
  PD K X (.Call (.Name "len" p) [.Call (.Name "set" p') [e] [] pos'] [] pos) (gXe te) :=
 .of (aJ0 dQh hg hm cJy (aXp (bQ9 ((cQi (lt64 hr) hK hc).or (cQj (lt64 hr) hK hc)) hg' hm' eQp (aXp he.o bQ8 h1) (by decide) (by decide) h1 h4) bQ8 h2) (by decide) (by decide) h2 h3) fun σ H Q J=>J.el λF S Γ QD r g q c =>
 ⟨F,S,Γ,_,r,g,q,λv d H1 G O Y v1 Z=>by
  have go:∀(n p:Nat) (B:n<300),H1 p=none->QD (.int n) G->∃p' D,[V.ref p]=[V.ref p']/\upd H1 p (szO p n) p'=some (szO p' D)/\D<1000000/\Q (.int D) (upd H1 p (szO p n)):=λn p B j hq =>
   ⟨p,n,rfl,aQ6,by lia,c (.int n) (.int n) _ G (O.trans (Ext.same (aQs j))) (Y.same (aQs j)) (by rfl) hq⟩
  rcases Z with⟨U,rfl,B,q⟩|⟨ss,rfl,B,q⟩
  ·obtain⟨a,us,rfl,t,l⟩:=v1;exact .inl ⟨_,U,rfl,⟨a,us,rfl,t.sq,bXm l⟩,B,λp n j z=>go n p (by have:=z.1;lia) j (q n z)⟩
  ·obtain⟨a,us,rfl,t,l⟩:=v1;exact .inr ⟨_,ss,rfl,⟨a,us,rfl,t.sq,aJk l⟩,B,λp n j z=>go n p (by have:=z.1;lia) j (q n z)⟩⟩
end
section
variable{X:Cx}{K:Fg}{pos:Pos}{k:Nat}
def exrD:D->List D->Sto->DK->Prop:=λo ds S Q=>match o,ds with
 |.ref a,[.ref b]=>∃xs ys,S a=some (.lst xs)/\S b=some (.lst ys)/\xs.length+ys.length<=sizeLine/\Q .non (supd S a (.lst (xs++ys)))
 |_,_=>False
theorem gQ2:MtD K "list" cJu exrD ckL:=⟨λF S H d x r h c=>ty_L r h c,λF S H d ds x vs Q QD r h l q c=>by
 match d,ds,q with
 |.ref a,[.ref b],⟨xs,ys,B,j,G,q⟩ =>
  obtain⟨v,rfl,D⟩:=l.one;obtain⟨us,J,z⟩:=r.obj a _ B;obtain⟨ws,hw,lw⟩:=r.obj b _ j;rw[rref h,rref D];exact⟨a,b,us,ws,rfl,rfl,J,hw,by rw[z.length,lw.length];exact G,c.write r (us:=us) B (z.app lw) (by rfl) q⟩⟩
theorem cZw{o e:Expr}{to:ED}{t:AD}{apos cpos:Pos}(ho:PD K X o to)(ha:PAD K X [e] t)(hK:X.K=K:=by rfl)
  (hbase:gH o "extend" X.env (eval o X.env)=eval o X.env:=by rfl)
  (hfew:((cM cpos (aD [e] X.env)).all (λx=>!x.1) && (kB cpos (iJ [] X.env)).all (λx=>x.1.isSome)
   && decide (([e]:List Expr).length+([]:List j5).length+(if ([]:List j5).isEmpty then 0 else 1)<30))=true:=by rfl)
  (hline:(apos.endLine==cpos.line)=true:=by rfl) (hs:aD [e] X.env=(false,eval e X.env)::aD [] X.env:=by rfl) (hplain:(cM cpos (aD [] X.env)).any (·.1)=false:=by rfl) :
  PD K X (.Call (.Attribute o "extend" apos) [e] [] cpos) (dMt exrD ckL to t):=e_bm gQ2 PySem.F.plainAttrs_list PySem.F.slot_list_extend PySem.F.type_list_extend cJv ho ha hK hbase hfew hline hs hplain
def dZk(r r':R2D)(ta tb tc:ED):ED:=fun Γ S Q=>ta Γ S λx S1=>tb Γ S1 λy S2=>r x y S2 λz S3=>∃k,z=.bl k/\(if k=true then tc Γ S3 λw S4=>r' y w S4 Q else Q (.bl false) S3)
theorem dJu(h:OpD K r rd)(h':OpD K r' rd'):∀σ H Q,upE K (dZk rd rd' ta tb tc) σ H Q->eQm r r' (upE K ta) (upE K tb) (upE K tc) σ H Q:=fun σ H Q z0=>z0.el λF S Γ QD r g q c =>
 ⟨F,S,Γ,_,r,g,q,λx d H1 S1 D r1 v1 q1=>⟨F,S1,Γ,_,r1,g.ext D,q1,λy e H2 S2 B r2 v2 q2=>h F S2 H2 d e x y _ _ r2 (v1.ext B) v2 q2 λv z H3 Y j O G Z=>by
  obtain⟨kk,e3,U⟩:=Z;subst e3;refine⟨kk,rbl G,?_⟩;cases kk with
  |true=>exact⟨F,Y,Γ,_,O,g.ext (D.trans (B.trans j)),U,λw f H4 S4 J r4 v4 q4=>h' F S4 H4 e f y w Q QD r4 (v2.ext (j.trans J)) v4 q4 λv z H5 S5 x5=>c v z H5 S5 (D.trans (B.trans (j.trans (J.trans x5))))⟩
  |false=>exact c _ _ _ Y (D.trans (B.trans j)) O (rbl G▸G) U⟩⟩
theorem dJv(ho:OpR X (bU op) r)(ho':OpR X (bU op') r')(h:OpD K r rd)(h':OpD K r' rd')(ha:PD K X a ta)(hb:PD K X b tb)(hc:PD K X c tc)
  (hm:lastMarks [op,op'] [b,c]=false:=by with_unfolding_all rfl):PTD K X (.Compare a [op,op'] [b,c] pos) (aZj (dZk rd rd' ta tb tc)):=.of (dXy ho ho' ha.o hb.o hc.o hm) fun σ H Q q=>dJu h h' σ H _ (by
 obtain⟨F,S,Γ,QD,r,g,q,c⟩:=q;refine⟨F,S,Γ,_,r,g,q,λv d H1 D j z v1 ⟨b,e,B⟩=>?_⟩;subst e;exact⟨b,rbl v1,c b H1 D j z B⟩)
theorem eJx(ha:PD K X a ta)(hb:PD K X b tb)(hc:PD K X c tc)(hm:lastMarks [.Lt,.LtE] [b,c]=false:=by with_unfolding_all rfl) :
  PTD K X (.Compare a [.Lt,.LtE] [b,c] pos) (aZj (dZk (iiD0 λi j=>.bl (decide (i<j))) (iiD0 λi j=>.bl (decide (i<=j))) ta tb tc)):=dJv op_lt eX3 cJ0 cJ0 ha hb hc hm
end
end L2
set_option maxHeartbeats 4000000
namespace L2
open PySem PySem.Spec PyProof.Rows
section
variable{X:Cx}{K:Fg}{pos:Pos}{k:Nat}
theorem dZl:∀{xs:List V}{us:List ab},xs.length=us.length->(∀(i:Nat) (x:V) (u:ab),xs[i]?=some x->us[i]?=some u->RelV x u)->Vals xs us
 |[],[],_,_=>.nil
 |[],_::_,h,_=>by simp at h
 |_::_,[],h,_=>by simp at h
 |x::xs,u::us,h,j=>.cons (j 0 x u rfl rfl) (dZl (by simpa using h) λi y v h1 h2=>j (i+1) y v (by simpa using h1) (by simpa using h2))
theorem cZx:∀cs:List Nat,RepL K M H (cs.map λc=>D.str ⟨#[c]⟩) (cs.map λc=>V.str ⟨#[c]⟩)
 |[]=>RepL.nil
 |c::cs=>RepL.cons (by rfl) (cZx cs)
end
end L2
set_option maxHeartbeats 1000000
namespace L2
open PySem PySem.Spec PyProof.Rows
def Its(x:Str):It:=⟨λi _=>i<x.cps.size,λi H v H'=>H'=H/\∃c,x.cps[i]?=some c/\v=.str ⟨#[c]⟩,λi _=>i=x.cps.size⟩
theorem cZy{K:Fg}(x:Str)(t:Tok)(ty:String)(it:Addr)(hty:["enumerate", "zip", "dict_itemiterator", "dict_reverseitemiterator", "odict_iterator", "itertools.zip_longest", "itertools.pairwise"].contains ty=false)
  (W:∀A:aU,A.handled=none->Walks P w A it [it] [it] x.cps.size (SignAt x) (λi h=>h.IsStrIter it ty x t i)) (hs:∀(A:aU) (i:Nat) (s:ag) (Q:ab->ag->Prop) (E:ab->ag->Prop),s.heap.IsStrIter it ty x t i->Q (.ref it) s->aE (aF P w) A (iu (.ref it)) Q E s) :
  Turn P w K tg (Its x) [it] it (λi h=>h.IsStrIter it ty x t i) where
 mem:=by simp
 obj:=λi h st b j=>by
  have e:b=it:=by simpa using j
  subst e;obtain⟨o,g,c,d⟩:=st;exact⟨o,g,λv z=>by rw[d] at z;cases z⟩
 keep:=λi h h' st k=>by
  obtain⟨o,g,r⟩:=st;exact⟨o,k it (by simp) o g,r⟩
 item:=by
  intro X Y hw Z U i pins s σ H E I hf st J;subst Y hw Z;obtain⟨f0,f1,f2,f3,f4,f5⟩:=hf it (by simp)
  refine(W X.A (I.ok.hd U)).item i s _ E J st λv h' B hv D G=>?_;obtain⟨c,u,O,rfl⟩:=hv;have I1:Inv X pins σ H {s with heap:=h',toks:=B}:=I.turned (λb o j e=>G b o (by simpa using j) e) f0 f1 f3 f4 f5
  obtain⟨o,e,cl,d⟩:=id D;exact⟨_,rfl,dXx e cl d hty ⟨.str ⟨#[c]⟩,H,I1,⟨u,rfl⟩,⟨rfl,c,O,rfl⟩,D,λb j=>(hf b j).1⟩⟩
 done:=by
  intro X Y hw Z U i pins s σ H E I hf st J;subst Y hw Z;obtain⟨f0,f1,f2,f3,f4,f5⟩:=hf it (by simp)
  have e:=J;subst e;exact(W X.A (I.ok.hd U)).done s _ E st λh' B G=>⟨rfl,I.turned (λb o j e=>G b o (by simpa using j) e) f0 f1 f3 f4 f5⟩
 self:=λA i s Q E st h=>hs A i s Q E st h
section
variable{X:Cx}{tg:Expr}
def iStr(tl:TE):TI:=fun σ H R=>tl σ H λv H1=>∃x,v=.str x/\R (Its x) H1
theorem gQ3(hl:PE X l tl):PI X tg l (iStr tl):=by
 intro pins s σ H R I h;refine thn (hl pins s σ H _ I h) λv s1 ⟨y,H1,z,B,x,e,q⟩=>?_;subst e;obtain⟨t,rfl⟩:=B;refine wpAny_pyIter_strU ?_;have fp:∀b∈[s1.heap.objs.size],FpOk X pins H1 b:=λb D=>by
  have e:b=s1.heap.objs.size:=by simpa using D
  subst e;exact z.fpOk (Nat.le_refl _) (z.hok.fresh (Nat.le_refl _))
 refine⟨s1.heap.objs.size,[s1.heap.objs.size],(λi h=>h.IsStrIter s1.heap.objs.size (strIterType x) x t i),_,H1,rfl,z.kept λb o e=>ae _ e,?_,⟨_,aq _ rfl,rfl,rfl⟩,fp,q⟩;unfold strIterType
 split
 ·exact cZy x t _ _ (by decide) (λA j=>Walks.strAscii j _ x t) λA i s Q E st h=>wpAny_pyIter_striter_ascii st h
 ·exact cZy x t _ _ (by decide) (λA j=>Walks.strWide j _ x t) λA i s Q E st h=>wpAny_pyIter_striter_wide st h
end
section
variable{X:Cx}{K:Fg}{pos:Pos}
theorem eJy:ItOk K F S H (Its x) (cJ4 x) G where
 go:=λO f J H2 y j _ i d hd=>by
  unfold cJ4 at hd;rw[aQ,bF] at hd;obtain⟨c,hc,rfl⟩:=hd;rw[aS] at hc;have hi:i<x.cps.size:=by
   rcases Nat.lt_or_ge i x.cps.size with z|z
   ·exact z
   ·rw[ke z] at hc;cases hc
  refine⟨hi,λz Y ⟨D,U,hc',B⟩=>?_⟩;subst B;subst D;rw[hc] at hc';cases hc';exact⟨Ext.refl _ _,j,by rfl⟩
 stop:=λO f J H2 y j _=>by unfold cJ4;rw[ah];exact aW
def gXf(te:ED):ID:=fun Γ S Q=>te Γ S λd S1=>match d with
 |.str x=>Q (cJ4 x) (λ_=>True) S1
 |_=>False
theorem gQ4(hl:PD K X l tl):PID K X tg l (gXf tl):=.of (gQ3 hl.o) fun σ H Q z=>z.el λF S Γ QD r g q c =>
 ⟨F,S,Γ,_,r,g,q,λv d H1 G B D v1 j=>by
  match d,j with
  |.str x,j=>exact⟨x,rstr v1,c _ _ _ _ _ B D eJy j⟩⟩
end
end L2
set_option maxHeartbeats 4000000
namespace L2
open PySem PySem.Spec PyProof.Rows
section
variable{X:Cx}
def cZz(w:aK)(K:Fg):List V->Hp->VK->Prop:=λxs H Q=>∃x ms,xs=[x]/\dSt w K H x ms/\ms.Nodup/\ms.length<300/\∀l ys out,H l=none->out.Perm ms->out.Pairwise (λa b=>HT.lexS a b=true)->aZ (dT K dS H) ys out->Q (.ref l) (upd H l (.lst ys))
theorem aXk{K:Fg}{w:aK}(hu:X.A.units+8<bN)(hK:X.K=K:=by rfl)(hw:X.w=w:=by rfl)(hc:X.calm=true:=by rfl):CallR X (.builtin "sorted") (cZz w K):=by
 subst hw;intro pins s σ H xs us Q I r h;obtain⟨x,ms,rfl,⟨p,es,ep,t,ps,rfl,hH,hf,G,O,pp,rfl⟩,nd,Y,q⟩:=h;obtain⟨u,rfl,rx⟩:=aX3 r;cases rx;obtain⟨hg,_⟩:=I.hok p _ hH;have hl:es.size=ps.length:=by have:=bL pp;simpa using this
 have hpl':ps.length<300:=by simpa using Y
 have hh:=I.ok.hd hc;refine gA kind_sorted plain_sorted entry_sorted (args_sorted1 _) ?_;refine aa (ad ?_);refine aa (ST.collectT (by simp[hh]) hg hf G O (by lia) λvals h1 d B kp=>?_)
 obtain⟨ps',j,z⟩:=ST.paired_perm B pp;have hvl:=bL z;have hpl2:=j.length_eq;have Z:Inv X pins σ H {s with heap:=h1,drawn:=d}:=(I.kept kp).drawn d
 refine aa (jH ?_ (by rw[bH];lia))
 have D:(h1.push (b8 "list" vals.toArray 0)).get? h1.objs.size=some (b8 "list" vals.toArray 0):=aq _ rfl;refine aa (bS (b9 slot_list_sort ⟨_,D,rfl⟩ entry_list_sort ?body (args_list_sort _)))
 case body =>
  refine KS.sort_tups (by lia) D (fJ3 Z hK (λb o e=>ae _ e) z) ((j.map (·.2)).nodup_iff.mpr nd) (by rw[bH];lia) λidx h' c i1 i2 i3 g kk=>⟨_,rfl,ad ⟨_,rfl,?_⟩⟩
  have U:∀i∈idx,i<vals.length:=λi hi=>bf.mp (i1.mem_iff.mp hi);have zv:=KS.paired_idx z bZ (V.non,[]) idx U;obtain⟨z1,z2⟩:=bXa zv;have eo:(idx.map λi=>(ps'.map (·.2)).getD i [])=(idx.map λi=>ps'.getD i (V.non,[])).map (·.2):=by
   rw[bg];exact fC λi _=>cZn ps' i
  rw[eo] at i2 i3;have J:=Z.hok.fresh (Nat.le_refl _);have sm:Same H (upd H h1.objs.size (.lst ((idx.map λi=>ps'.getD i (V.non,[])).map (·.1)))):=aQs J;have il:idx.length=vals.length:=by have:=i1.length_eq;simpa using this
  have I2:Inv X pins σ (upd H h1.objs.size (.lst ((idx.map λi=>ps'.getD i (V.non,[])).map (·.1)))) {s with heap:=h',drawn:=d}:=Z.laid (λb o e=>kk b o (Nat.ne_of_lt (aC e)) (ae _ e)) (Nat.le_refl _)
   ⟨by simp only[ah];rw[bH];lia,_,c,z1,g⟩
  exact⟨.ref h1.objs.size,_,I2,rfl,q _ _ _ J (i3.trans (j.map (·.2))) i2 z2⟩
end
section
variable{X:Cx}{K:Fg}{pos:Pos}{k:Nat}{F:Am}{S:Sto}{H:Hp}
theorem Rp.ntup(r:Rp K F S H){a:Addr}{xs:List V}(h:Rd H a (.tup xs)):¬ mt S F a:=λz=>by
 have no:∀u,H a=some u->(∀ys,u≠.tup ys)->(∀o ys,u≠.frz o (.tup ys))->False:=λu e J G=>by
  rcases h with h|⟨o,h⟩
  ·rw[e] at h;exact J _ (a7 h)
  ·rw[e] at h;exact G _ _ (a7 h)
 rcases z with z|z
 ·cases e:S a with
  |none=>exact z e
  |some o =>
   have q:=r.obj a o e;cases o with
   |lst ds=>obtain⟨us,j,_⟩:=q;exact no _ j (λ_ z=>by cases z) λ_ _ z=>by cases z
   |dk B=>obtain⟨us,j,_⟩:=q;exact no _ j (λ_ z=>by cases z) λ_ _ z=>by cases z
   |dt B=>obtain⟨us,j,_⟩:=q;exact no _ j (λ_ z=>by cases z) λ_ _ z=>by cases z
   |tb ps O=>obtain⟨us,j,_⟩:=q;exact no _ j (λ_ z=>by cases z) λ_ _ z=>by cases z
   |ex f U hl=>obtain⟨us,j,D⟩:=hl _ _ _ q;exact no _ j (λ_ z=>by subst z;exact D) λ_ _ z=>by subst z;exact D
 ·obtain⟨⟨zs,e,ct⟩,_⟩:=r.frm a z;exact no _ e (λ_ z=>by subst z;exact ct) λ_ _ z=>by subst z;exact ct
theorem bXo(r:Rp K F S H):∀{xs:List V}{ts:List (List Str)},aZ (dT K dS H) xs ts->RepL K (mt S F) H (ts.map tupS) xs
 |_,_,.nil=>RepL.nil
 |_,_,.cons ⟨a,us,e,sq,p⟩ q=>by
  refine RepL.cons ?_ (bXo r q);subst e;refine⟨a,us,rfl,?_,dQy p⟩;rcases sq with h|h
  ·exact .inl ⟨r.ntup h,h⟩
  ·exact .inr (.inr h)
end
end L2
set_option maxHeartbeats 1000000
namespace L2
open PySem PySem.Spec PyProof.Rows
section
variable{X:Cx}
def dSs(w:aK):Dn (List Str):=λH v ms=>∃p es ep t,v=.ref p/\H p=some (stO p es ep t)/\t.fits es.size=true/\t.led=ST.ledOf w/\(t.plain=true->es.size<=1)/\kc (es.toList.map (·.2)) ms
theorem bJs(p:l'.Perm l):∀{m:List Str},kc l m->∃m',m'.Perm m/\kc l' m':=by
 induction p with
 |nil=>intro m h;exact⟨m,.refl _,h⟩
 |cons x p U =>
  intro m h;cases h with
  |cons y t r =>
   obtain⟨m',J,h'⟩:=U r;exact⟨_::m',J.cons _,.cons _ _ h'⟩
 |swap x y l =>
  intro m h;cases h with
  |cons y t r =>
   cases r with
   |cons z u r=>exact⟨_,.swap _ _ _,.cons _ _ (.cons _ _ r)⟩
 |trans p q B j =>
  intro m h;obtain⟨Y,G,h1⟩:=j h;obtain⟨O,D,h2⟩:=B h1;exact⟨O,D.trans G,h2⟩
def dZm(w:aK):List V->Hp->VK->Prop:=λxs H Q=>∃x ms,xs=[x]/\dSs w H x ms/\ms.Nodup/\ms.length<300/\∀(l:Addr) (out:List Str),H l=none->out.Perm ms->out.Pairwise (λa b=>HT.ltS a b=true)->Q (.ref l) (upd H l (.lst (out.map V.str)))
theorem bXp(hw:X.w=w:=by rfl)(hc:X.calm=true:=by rfl):CallR X (.builtin "sorted") (dZm w):=by
 subst hw;intro pins s σ H xs us Q I r h;obtain⟨x,ms,rfl,⟨p,es,ep,t,rfl,hH,hf,J,U,pp⟩,nd,h64,q⟩:=h;obtain⟨u,rfl,rx⟩:=aX3 r;cases rx;obtain⟨hg,_⟩:=I.hok p _ hH;have hl:es.size=ms.length:=by have:=pp.length;simpa using this
 have hh:=I.ok.hd hc;refine gA kind_sorted plain_sorted entry_sorted (args_sorted1 _) ?_;refine aa (ad ?_);refine aa (ST.collectT (by simp[hh]) hg hf J U (by lia) λvals h1 d G kp=>?_)
 obtain⟨ms',j,z⟩:=bJs G pp;have hvl:=z.length;have hml:=j.length_eq;have I1:Inv X pins σ H {s with heap:=h1,drawn:=d}:=(I.kept kp).drawn d
 refine aa (jH ?_ (by rw[bH];lia))
 have B:(h1.push (b8 "list" vals.toArray 0)).get? h1.objs.size=some (b8 "list" vals.toArray 0):=aq _ rfl;refine aa (bS (b9 slot_list_sort ⟨_,B,rfl⟩ entry_list_sort (SF.treeK strKind_oneLt B z.keysOf (λv₁ Z rest e=>keyKind_strs (by rw[<- e];exact z)) (by rw[bH];lia) λD a1 a2=>⟨_,rfl,?_⟩) (args_list_sort _)))
 refine ad ⟨_,rfl,?_⟩;obtain⟨out,o1,O,o3⟩:=sorted_out_str z a1 a2;obtain⟨v1,_⟩:=bXb (H:=H) o1;have Y:=I1.hok.fresh (Nat.le_refl _);obtain⟨e,he⟩:=sortedHeap_at B;have hol:=O.length_eq;have I2:Inv X pins σ (upd H h1.objs.size (.lst (out.map V.str))) {s with heap:=iB (h1.push (b8 "list" vals.toArray 0)) h1.objs.size vals ((aT D).map (·.2)),drawn:=d}:=I1.laid (λb o g=>(sortedHeap_old (Nat.ne_of_lt (aC g)) (Nat.lt_trans (aC g) (aC B))).trans (ae _ g)) (Nat.le_refl _)
  ⟨by rw[ah,bH];lia,((aT D).map (·.2)).toList,e,v1,by rw[Array.toArray_toList];exact he⟩
 exact⟨.ref h1.objs.size,_,I2,rfl,q _ _ Y (O.trans j) (eZ0 o3 ((O.trans j).nodup_iff.mpr nd))⟩
end
section
variable{X:Cx}{K:Fg}{pos:Pos}{k:Nat}
theorem gQ5:∀ss:List Str,RepL K M H (ss.map D.str) (ss.map V.str)
 |[]=>RepL.nil
 |s::ss=>RepL.cons (by rfl) (gQ5 ss)
end
end L2
set_option maxHeartbeats 4000000
namespace L2
open PySem PySem.Spec PyProof.Rows
end L2
set_option maxHeartbeats 1000000
namespace L2
open PySem PySem.Spec PyProof.Rows
def emitOfS(elt:Expr)(acc:ab)(env:Env):Sem Unit:=eval elt env>>=λx=>gk elt.pos>>=λ_=>call (.builtin "set.add") [acc,x]>>=λ_=>pure ()
theorem dZn(elt target iter:Expr)(ifs:List Expr)(scope:Scope)(pos:Pos)(it acc:ab)(env:Env) :
  eA (.SetComp elt [⟨target,iter,ifs,0⟩] scope pos) 0 it acc env=aQr target ifs iter.pos (emitOfS elt acc env) (.compLoop (.SetComp elt [⟨target,iter,ifs,0⟩] scope pos) 0 it acc env) it env:=by
 refine bind_congr λ_=>bind_congr λr=>?_;cases r with
 |none=>rfl
 |some v =>
  refine bind_congr λ_=>bind_congr λ_=>bind_congr λok=>?_;cases ok <;> rfl
theorem cJ6(elt target iter t2 i2:Expr)(ifs ifs2:List Expr)(scope:Scope)(pos:Pos)(it acc:ab)(env:Env) :
  eA (.SetComp elt [⟨target,iter,ifs,0⟩,⟨t2,i2,ifs2,0⟩] scope pos) 0 it acc env=aQr target ifs iter.pos (innerOf (.SetComp elt [⟨target,iter,ifs,0⟩,⟨t2,i2,ifs2,0⟩] scope pos) i2 acc env) (.compLoop (.SetComp elt [⟨target,iter,ifs,0⟩,⟨t2,i2,ifs2,0⟩] scope pos) 0 it acc env) it env:=by
 unfold aQr aXr innerOf;refine bind_congr λ_=>bind_congr λr=>?_;cases r with
 |none=>rfl
 |some v =>
  refine bind_congr λ_=>bind_congr λ_=>bind_congr λok=>?_;cases ok with
  |false=>rfl
  |true =>
   simp only[j6,iX]
   rfl
theorem cJ7(elt target iter t2 i2:Expr)(ifs ifs2:List Expr)(scope:Scope)(pos:Pos)(it acc:ab)(env:Env) :
  eA (.SetComp elt [⟨target,iter,ifs,0⟩,⟨t2,i2,ifs2,0⟩] scope pos) 1 it acc env=aQr t2 ifs2 i2.pos (emitOfS elt acc env) (.compLoop (.SetComp elt [⟨target,iter,ifs,0⟩,⟨t2,i2,ifs2,0⟩] scope pos) 1 it acc env) it env:=by
 refine bind_congr λ_=>bind_congr λr=>?_;cases r with
 |none=>rfl
 |some v =>
  refine bind_congr λ_=>bind_congr λ_=>bind_congr λok=>?_;cases ok <;> rfl
def TKp(H H':Hp):Prop:=∀a xs,Rd H a (.tup xs)->Rd H' a (.tup xs)
abbrev PVk{κ:Type}(rp:Hp->V->κ->Prop)(H:Hp):ab->V×κ->Prop:=λv p=>RelV p.1 v/\rp H p.1 p.2
structure SKn(P:ax)(w:aK)(K:Fg)(κ:Type) where
 kd:Hp->ST.SetKd P w κ
 rp:Hp->V->κ->Prop
 pI:Array (Int×ab)->a6->List κ->Prop
 toI:∀{X:Cx}{pins σ H s p es ep t} {ps:List (V×κ)},X.prog=P->X.w=w->X.K=K->Inv X pins σ H s->s.heap.get? p=some (ST.setOb es ep t)->pI es t (ps.map (·.2))->aZ (PVk rp H) (es.toList.map (·.2)) ps ->
  (kd H).I s.heap p es ep t/\aZ (λ(e:Int×ab) k=>(kd H).is s.heap k e.2) es.toList (ps.map (·.2))
 toIs:∀{X:Cx}{pins σ H s} {x:V}{v:ab}{k:κ},X.prog=P->X.w=w->X.K=K->Inv X pins σ H s->RelV x v->rp H x k->(kd H).is s.heap k v
 ofI:∀{H:Hp}{h:bb}{p es ep t} {ks:List κ},(kd H).I h p es ep t->ks.Nodup->aZ (λ(e:Int×ab) k=>(kd H).is h k e.2) es.toList ks->∃ps:List (V×κ),aZ (PVk rp H) (es.toList.map (·.2)) ps/\ps.map (·.2)=ks/\pI es t ks
 fr:∀led,pI #[] (.fresh 0 0 led) []
 mo:∀{H H':Hp}{v:V}{k:κ},TKp H H'->rp H v k->rp H' v k
def StV{P:ax}{w:aK}{K:Fg}{κ:Type}(kn:SKn P w K κ)(H:Hp)(p:Addr)(acc:List κ):Prop:=∃es ep t,∃ps:List (V×κ),H p=some (stO p es ep t)/\t.led=ST.ledOf w/\kn.pI es t (ps.map (·.2))/\aZ (PVk kn.rp H) (es.toList.map (·.2)) ps/\(ps.map (·.2)).Nodup/\∀k,k∈ps.map (·.2)↔k∈acc
theorem StV.keep{K:Fg}{kn:SKn P w K κ}{acc:List κ}(h:StV kn H p acc)(e:H' p=H p)(t:TKp H H'):StV kn H' p acc:=by
 obtain⟨es,ep,tb,ps,h1,h2,G,D,B,j⟩:=h;exact⟨es,ep,tb,ps,e.trans h1,h2,G,Paired.imp (λ_ _ z=>⟨z.1,kn.mo t z.2⟩) D,B,j⟩
theorem StV.at{K:Fg}{kn:SKn P w K κ}{acc:List κ}(h:StV kn H p acc):∃φ,H p=some (.ext φ):=by
 obtain⟨es,ep,tb,ps,h1,_⟩:=h;exact⟨_,h1⟩
theorem eJz(h:H p=some (.ext φ)):TKp H (upd H p o):=λa xs r=>by
 have:a≠p:=by
  rintro rfl;rcases r with r|⟨o,r⟩ <;> rw[h] at r <;> cases r
 rcases r with r|⟨o',r⟩
 ·exact .inl (by rw[upd_ne this];exact r)
 ·exact .inr ⟨o',by rw[upd_ne this];exact r⟩
section
variable{X:Cx}{K:Fg}{κ:Type}[DecidableEq κ]
def cX0{P:ax}{w:aK}(kn:SKn P w K κ)(p:Addr)(te:TE):TB:=fun σ H N=>te σ H λy H4=>∃acc k,StV kn H4 p acc/\kn.rp H4 y k/\acc.length+1<=300/\∀φ,StV kn (upd H4 p (.ext φ)) p (acc++[k])->N (upd H4 p (.ext φ))
theorem cX1{P:ax}{w:aK}{kn:SKn P w K κ}{elt:Expr}{te:TE}{p:Addr}(hxe:X.xe=λ_ _=>False)(hu:X.A.units+1<bN)(hP:X.prog=P)(hw:X.w=w)(hK:X.K=K)(he:PE X elt te):PB X (emitOfS elt (.ref p) X.env) (cX0 kn p te):=by
 intro pins s σ H N I h;have h1:=he pins s σ H _ I h;rw[hxe] at h1;refine aa (thn h1 λy s1 ⟨v,H1,I1,r1,acc,k,st,rk,hn,n⟩=>aa (fS (aa ?_)));obtain⟨es,ep,t,ps,hp,hled,hpi,hpp,hnd,Z⟩:=id st;subst hP hw;obtain⟨ho,_⟩:=I1.hok p _ hp;obtain⟨i1,i2⟩:=kn.toI rfl rfl hK I1 ho hpi hpp;have isk:=kn.toIs rfl rfl hK I1 r1 rk;have M:ST.Mem (kn.kd H1) s1.heap p acc (ST.ledOf X.w) (ps.map (·.2)):=⟨⟨es,ep,t,i1,hled,i2⟩,hnd,Z⟩;refine b9 F.slot_set_add ⟨_,ho,rfl⟩ F.entry_set_add ?_ (F.args_set_add_2 _ _);unfold cr.«set.add» cr.Frozenset.oneOther;simp only[jR,j6];refine aa (ad ?_)
 try dsimp only
 refine aa (ad ?_)
 try dsimp only
 refine aa ?_;refine ST.addM (kn.kd H1) (by lia) M isk (by have:=M.size;lia) λh' tk ks' M' sb kp tk'=>?_
 refine ad ⟨_,rfl,ad ?_⟩;obtain⟨G,J,t',O,B,i2'⟩:=M'.ex;obtain⟨ps',U,D,Y⟩:=kn.ofI O M'.nd i2';have j:=(kn.kd H1).obj O;have I2:Inv X pins σ (upd H1 p (stO p G J t')) {s1 with heap:=h',toks:=tk}:=I1.write (by rw[hp];exact trivial) (.inl rfl) (λb u hb hu=>(sb.2 b hb).trans hu) ⟨_,j⟩ ⟨j,⟨_,j⟩,λg1 g2 g k=>k _ g⟩
 have tk1:TKp H1 (upd H1 p (stO p G J t')):=eJz hp;refine⟨σ,_,I2,Wk.refl σ,n _ ⟨G,J,t',ps',aQ6,B,by rw[D];exact Y,Paired.imp (λ_ _ z=>⟨z.1,kn.mo tk1 z.2⟩) U,by rw[D];exact M'.nd,by rw[D];exact M'.mem⟩⟩
end
end L2
namespace ST
open PySem PySem.SetTable PySem.Spec PyProof.Rows
end ST
namespace L2
open PySem PySem.Spec PyProof.Rows
def cJ8(P:ax)(w:aK)(K:Fg):SKn P w K Str where
 kd:=λ_=>ST.strKd P w
 rp:=λ_ v k=>v=.str k
 pI:=λes t _=>t.fits es.size=true/\ElemsOf (eg P w) es.toList/\(t.plain=true->es=#[])
 toI:=λ{X pins σ H s p es ep t ps} _ _ _ _ ho hpi hp=>⟨⟨ho,hpi⟩,by
  generalize es.toList=l at hp
  induction l generalizing ps with
  |nil=>cases hp;exact .nil
  |cons e l ih =>
   cases hp with
   |cons h1 h2 =>
    refine .cons ?_ (ih h2);obtain⟨r,e1⟩:=h1;rw[e1] at r;obtain⟨t',e2⟩:=r;have e2:e.2=_:=e2;show eO _ e.2=true;rw[e2];simp[eO]⟩
 toIs:=λ{X pins σ H s x v k} _ _ _ _ r e=>by
  rw[e] at r;obtain⟨t',e2⟩:=r;rw[e2];have z:eO k (jJ k t')=true:=by simp[eO]
  exact z
 ofI:=λ{H h p es ep t ks} hI nd hp=>by
  clear nd;refine(λ⟨ps,a,b⟩=>⟨ps,a,b,hI.2⟩) (?_:∃ps:List (V×Str),aZ (PVk (λ_ v k=>v=.str k) H) (es.toList.map (·.2)) ps/\ps.map (·.2)=ks);generalize es.toList=l at hp
  induction l generalizing ks with
  |nil=>cases hp;exact⟨[],.nil,rfl⟩
  |cons e l ih =>
   cases hp with
   |cons h1 h2 =>
    obtain⟨ps,a,b⟩:=ih h2;obtain⟨tk,e1⟩:=fw (show eO _ e.2=true from h1)
    exact⟨(.str _,_)::ps,.cons ⟨⟨tk,e1⟩,rfl⟩ a,by rw[aL,b]⟩
 fr:=λled=>⟨rfl,ST.empty_el,λ_=>rfl⟩
 mo:=λ_ h=>h
theorem gQ6{K:Fg}(t:TKp H H')(h:dT K dS H v k):dT K dS H' v k:=by
 obtain⟨a,xs,e,sq,p⟩:=h;refine⟨a,xs,e,?_,p⟩;rcases sq with sq|sq
 ·exact .inl (t a xs sq)
 ·exact .inr sq
def cJ9(P:ax)(w:aK)(K:Fg):SKn P w K (List Str) where
 kd:=λH=>ST.restr (ST.tupKd P w) λk v=>∃x,RelV x v/\dT K dS H x k
 rp:=λH v k=>dT K dS H v k
 pI:=λes t ks=>ST.SetI es t/\aZ (λ(e:Int×ab) k=>e.1=ST.hashT P w k) es.toList ks/\(t.plain=true->∀k∈ks,k=[])
 toI:=λ{X pins σ H s p es ep t ps} e1 e2 e3 I ho hpi hp=>by
  subst e1 e2 e3;obtain⟨h1,h2,h3⟩:=hpi;have is:aZ (λ(e:Int×ab) k=>(ST.TK X.prog X.w s.heap k e.2/\∃x,RelV x e.2/\dT X.K dS H x k)/\e.1=ST.hashT X.prog X.w k) es.toList (ps.map (·.2)):=by
   clear h3 h1 ho;generalize es.toList=l at hp h2
   induction l generalizing ps with
   |nil=>cases hp;exact .nil
   |cons e l ih =>
    cases hp with
    |cons q1 q2 =>
     cases h2 with
     |cons z1 z2 =>
      refine .cons ⟨⟨?_,_,q1.1,q1.2⟩,z1⟩ (ih q2 z2);obtain⟨r,b,ys,e3,hq,pp⟩:=q1;rw[e3] at r;have r:e.2=.ref b:=r;obtain⟨its,ri,tp,_⟩:=I.tuple hq;rw[r];exact dQg (K:=X.K) pp ri tp
  refine⟨⟨⟨⟨ho,h1⟩,λe he=>?_,λhpl e he=>?_⟩,λe he=>?_⟩,Paired.imp (λ_ _ z=>z.1) is⟩
  ·obtain⟨k,_,q⟩:=ST.paired_mem is e he;exact⟨k,q.1.1,q.2⟩
  ·obtain⟨k,hk,q⟩:=ST.paired_mem is e he;rw[h3 hpl k hk] at q;exact q.1.1
  ·obtain⟨k,_,q⟩:=ST.paired_mem is e he;exact⟨k,q.1⟩
 toIs:=λ{X pins σ H s x v k} e1 e2 e3 I r d=>by
  subst e1 e2 e3;refine⟨?_,x,r,d⟩;obtain⟨b,ys,e3,hq,pp⟩:=d;rw[e3] at r;have r:v=.ref b:=r;obtain⟨its,ri,tp,_⟩:=I.tuple hq;rw[r];exact dQg (K:=X.K) pp ri tp
 ofI:=λ{H h p es ep t ks} hI nd hp=>by
  obtain⟨ps,a,b⟩:=eJ3 (K:=K) (H:=H) hp;refine⟨ps,a,b.symm,hI.1.1.inv,?_,λhpl k hk=>?_⟩
  ·have hel:=hI.1.2.1;clear a b nd hI;generalize es.toList=l at hp hel
   induction l generalizing ks with
   |nil=>cases hp;exact .nil
   |cons e l ih =>
    cases hp with
    |cons q1 q2 =>
     refine .cons ?_ (ih q2 λe he=>hel e (ak _ he));obtain⟨k,z1,z2⟩:=hel e ai;rw[z2,z1.inj q1.1]
  ·obtain⟨e,he,q⟩:=ST.paired_mem' hp k hk;exact q.1.inj (hI.1.2.2 hpl e he)
 fr:=λled=>⟨ST.fresh_ok _ _ _,.nil,λ_ k hk=>by cases hk⟩
 mo:=λt h=>gQ6 t h
theorem bXq
  (h0:fx (aF prog w) A (.compLoop (.SetComp elt (⟨target,iter,ifs,0⟩::rest) scope pos) 0 it acc env) R s)
  (h:aE (aF prog w) A (iu it) (λit' s'=>fx (aF prog w) A (.compLoop (.SetComp elt (⟨target,iter,ifs,0⟩::rest) scope pos) 0 it' acc env) R s')
   (notedBy (aF prog w) A env λx s'=>R (.error x) s') s) :
  fx (aF prog w) A (.compStart (.SetComp elt (⟨target,iter,ifs,0⟩::rest) scope pos) 0 it acc env) R s:=by
 refine gN ?_;refine wpAny_notedAt ?_;refine aa (dF (wpAny_ite ?_))
 split
 ·first
   |exact aa (ad (ad (jM rfl h0)))
   |exact ad (jM rfl h0)
 ·refine aa (dA ?_);exact aa (fS (aa (dw h (λit' s' h'=>ad (jM rfl h')) λ_ _ x=>x)))
section
variable{X:Cx}{K:Fg}{κ:Type}{pins:List (Addr×Obj)}{σ:St}{H:Hp}{s:ag}
def bQs{P:ax}{w:aK}(kn:SKn P w K κ)(is:List (Option Nat))(wi:TI)(g:TG)(tt:TT)(tb:Addr->TB):TE:=fun σ H Q=>wi σ H λJ H1=>∀p,H1 p=none->∀φ,StV kn (upd H1 p (.ext φ)) p []->cQa J (capt is σ) g tt (tb p) (Q (.ref p)) (upd H1 p (.ext φ))
theorem comp_genS{kn:SKn P w K κ}(hw:X.w=w){elt target iter:Expr}{ifs:List Expr}{gs:List ft}{scope:Scope}{pos:Pos}{N':List Str}{is:List (Option Nat)}{wi:TI}{g:TG}{tt:TT}{tb:Addr->TB}{oc:Option Str}{m:ab->Env->Sem Unit}(hcalm:X.calm=true)(hN:X.N.Nodup)
  (hturn:∀it acc env,eA (.SetComp elt (⟨target,iter,ifs,0⟩::gs) scope pos) 0 it acc env=aQr target ifs iter.pos (m acc env) (.compLoop (.SetComp elt (⟨target,iter,ifs,0⟩::gs) scope pos) 0 it acc env) it env)
  (cp:Cap X.N scope N' is) (hi:PI X target iter wi)
  (hg:∀cl C fp s H,PG (aQ9 X N' scope cl C fp s H oc) target g) (ht:∀cl C fp s H,PTs (aQ9 X N' scope cl C fp s H oc) ifs tt) (hb:∀cl C fp s H D,PB (aQ9 X N' scope cl C fp s H oc) (m (.ref D) (hU scope cl C X.env)) (tb D))
  (hcf:∀n acc,eR n scope.names acc=ocl oc n acc) (hpc:∀h,gp h scope.names=ohp oc h)
  (hkind:scope.kind=.function) (hcell:∀y∈scope.names,y.2=.cell->oc=some y.1)
  (hu:∀y∈scope.names,scope.names.lookup y.1=some y.2) (hoc:∀x,oc=some x->scope.names.lookup x=some .cell)
  (hVb:okV scope.names X.env.scope.names=true)
  (hs:∀x,cy iter X.env x=pure x)
  {use:Option (ab->Sem Unit)}{Q:VK}{Qv:ab->ag->Prop}(I:Inv X pins σ H s) (h:bQs kn is wi g tt tb σ H Q)
  (fin:∀D C H5 s6,Inv X pins σ H5 s6->(∃m,s6.heap.Ns C m)->FrC X pins C H5->Q (.ref D) H5->compPost (aF X.prog X.w) X.A X.xe use Qv (.ref D) C (.ok .next) s6) :
  aE (aF X.prog X.w) X.A (comprehension (.SetComp elt (⟨target,iter,ifs,0⟩::gs) scope pos) scope X.env (firstIterPos (⟨target,iter,ifs,0⟩::gs) pos) (newSet (.type "set")) (firstAsync (⟨target,iter,ifs,0⟩::gs)) (firstIter (⟨target,iter,ifs,0⟩::gs) X.env) use) Qv X.xe s:=by
 have hV:=eQo hVb;have hV':=λx j=>hV (x,.free) j rfl;have hu':=λx j=>hu (x,.free) j;have B:∀x∈scope.names,x.2=.local->scope.names.lookup x.1=some .local:=λx j hl=>by rw[hu x j,hl]
 obtain⟨cl,O,c1,c2,c3⟩:=aXi λx j=>I.ok.has x (by
  obtain⟨v,n⟩:=hV' x j;rcases v with v|v|v
  ·exact absurd v n
  ·exact .inl v
  ·exact .inr v)
 have hun:∀x,oc=some x->cl.lookup x=none:=λx j=>by
  cases e:cl.lookup x with
  |none=>rfl
  |some c =>
   have:=hu' x (c3 x c e)
   rw[hoc x j] at this;cases this
 refine wpAny_comprehension_free rfl hs O hkind B (thn (hi pins s σ H _ I h) λv s1 h1=>thn h1 λitv s2 h2=>?_);obtain⟨it,fp,tn,J,H2,rfl,I2,T,st2,f2,q2⟩:=h2;refine aa (aa (dF (ad ?_)));refine bi ?_;have hD:=I2.hok.fresh (Nat.le_refl _);have fpl:∀b∈fp,b<s2.heap.objs.size:=λb hb=>by obtain⟨o,e,_⟩:=T.obj _ _ st2 b hb;exact aC e
 have led:(!(X.w.params.followText "set-order"))=ST.ledOf X.w:=rfl;have U:Inv X pins σ (upd H2 s2.heap.objs.size (stO s2.heap.objs.size #[] 0 (.fresh 0 0 (ST.ledOf X.w)))) {s2 with heap:=s2.heap.push (ST.setOb #[] 0 (.fresh 0 0 (ST.ledOf X.w)))} :=
  I2.laid (λb u e=>ae _ e) (Nat.le_refl _) ⟨aq _ rfl,⟨_,aq _ rfl⟩,λg1 g2 g k=>k _ g⟩
 have st3:tn 0 (s2.heap.push (ST.setOb #[] 0 (.fresh 0 0 (ST.ledOf X.w)))):=T.keep _ _ _ st2 λb hb o e=>ae _ e;have Y:∀b∈fp,FpOk X pins (upd H2 s2.heap.objs.size (stO s2.heap.objs.size #[] 0 (.fresh 0 0 (ST.ledOf X.w)))) b:=λb hb=>⟨by rw[upd_ne (Nat.ne_of_lt (fpl b hb))];exact(f2 b hb).1,(f2 b hb).2⟩
 have G:∀b∈fp,b<(s2.heap.push (ST.setOb #[] 0 (.fresh 0 0 (ST.ledOf X.w)))).objs.size:=λb hb=>by rw[cB];exact Nat.lt_succ_of_lt (fpl b hb)
 have q3:=q2 _ hD _ (⟨#[],0,_,[],aQ6,by rw[<- hw];rfl,kn.fr _,.nil,eE,λ_=>Iff.rfl⟩)
 show aE (aF X.prog X.w) X.A _ _ X.xe {s2 with heap:=s2.heap.push (ST.setOb #[] 0 (.fresh 0 0 (ST.ledOf X.w)))}
 change cQa _ _ _ _ _ _ (upd H2 s2.heap.objs.size (stO s2.heap.objs.size #[] 0 (.fresh 0 0 (ST.ledOf X.w)))) at q3;generalize hob:ST.setOb #[] 0 (.fresh 0 0 (ST.ledOf X.w))=ob at *
 generalize hso:stO s2.heap.objs.size #[] 0 (.fresh 0 0 (ST.ledOf X.w))=so at *
 generalize hDe:s2.heap.objs.size=D at *
 generalize hs3:({s2 with heap:=s2.heap.push ob})=s3 at *
 have hsh:s3.heap=s2.heap.push ob:=by rw[<- hs3]
 rw[<- hsh] at st3 G;have ok:=bZj (N':=N') U Y G hkind c1 c2 hcell hun;have I4:=bQf U ok hN c1 c2 hu' cp hV' hun;refine dQ1 ?_;rw[hcf,hpc];have kp:∀b o,s3.heap.get? b=some o->(ohp oc (s3.heap.push {cls:=.type "dict",data:=.dict #[]})).get? b=some o:=λb o e=>bQ3 (ae _ e);have st4:=T.keep _ _ _ st3 λb _ o e=>kp b o e;have f4:∀b∈fp,FpOk (aQ9 X N' scope (ocl oc (s3.heap.objs.size+1) cl) s3.heap.objs.size fp s3 (upd H2 D so) oc) [] (upd H2 D so) b:=λb hb =>
  ⟨(Y b hb).1,(ok.exf b hb).1,ok.exfs b hb,.inl hb,(ok.exf b hb).2,λp hp=>absurd (show p∈([]) from hp) (by simp)⟩
 have loop:=bX1 (X:=aQ9 X N' scope (ocl oc (s3.heap.objs.size+1) cl) s3.heap.objs.size fp s3 (upd H2 D so) oc)
  hcalm rfl (hturn _ _ _) rfl rfl T (hg _ _ _ _ _) (ht _ _ _ _ _) (hb _ _ _ _ _ D) I4 st4 f4 q3 (by
   intro H5 s6 Z _ qn;obtain⟨m6,n6,_⟩:=id Z.loc;have un:=Z.base;have hok':=Z.hok;refine fin D s3.heap.objs.size H5 s6 (U.call' Z.os un hok' Z.bare λb hb=>⟨(Y b hb).2.2.2.1,(Y b hb).2.1,(Y b hb).2.2.2.2.1,(Y b hb).2.2.2.2.2⟩) ⟨m6,n6⟩ ⟨Z.free,Nat.ne_of_gt U.lt,U.sz,λx c e z=>?_,λp hp z=>?_⟩ qn
   ·obtain⟨v,q⟩:=U.cell x c e;exact absurd q.lt (by rw[z];exact Nat.lt_irrefl _)
   ·exact absurd (aC (U.pin p hp).1) (by rw[z];exact Nat.lt_irrefl _))
 exact bXq loop (T.self _ 0 _ _ _ st4 loop)
theorem bJt{kn:SKn P w K κ}{m:ab->Env->Sem Unit}(hw:X.w=w)(hcalm:X.calm=true)(hN:X.N.Nodup)
  (hturn:∀it acc env,eA (.SetComp elt (⟨target,iter,ifs,0⟩::gs) scope pos) 0 it acc env=aQr target ifs iter.pos (m acc env) (.compLoop (.SetComp elt (⟨target,iter,ifs,0⟩::gs) scope pos) 0 it acc env) it env)
  (cp:Cap X.N scope N' is) (hi:PI X target iter wi)
  (hg:∀cl C fp s H,PG (aQ9 X N' scope cl C fp s H oc) target g) (ht:∀cl C fp s H,PTs (aQ9 X N' scope cl C fp s H oc) ifs tt) (hb:∀cl C fp s H D,PB (aQ9 X N' scope cl C fp s H oc) (m (.ref D) (hU scope cl C X.env)) (tb D))
  (hcf:∀n acc,eR n scope.names acc=ocl oc n acc:=by intro _ _;rfl) (hpc:∀h,gp h scope.names=ohp oc h:=by intro _;rfl)
  (hkind:scope.kind=.function:=by rfl) (hcell:∀y∈scope.names,y.2=.cell->oc=some y.1:=by decide +kernel)
  (hu:∀y∈scope.names,scope.names.lookup y.1=some y.2:=by decide +kernel) (hoc:∀x,oc=some x->scope.names.lookup x=some .cell:=by intro x h;cases h <;> rfl)
  (hVb:okV scope.names X.env.scope.names=true:=by first|rfl|kernel_rfl)
  (hs:∀x,cy iter X.env x=pure x:=by intro _;rfl) :
  PE X (.SetComp elt (⟨target,iter,ifs,0⟩::gs) scope pos) (bQs kn is wi g tt tb):=by
 intro pins s σ H Q I h;rw[arm_eval_SetComp];refine comp_genS hw hcalm hN hturn cp hi hg ht hb hcf hpc hkind hcell hu hoc hVb hs I h λD C J O G ⟨m,n⟩ B z=>?_;exact⟨m,n,λh' j=>⟨.ref D,J,B.gone G j,rfl,z⟩⟩
end
section
variable{X:Cx}{K:Fg}{pos:Pos}{k:Nat}{κ:Type}
theorem fQ0(r:Rp K F S H)(x:Ext S H S' H'):TKp H H':=λa xs h=>by
 have j:=aI λn=>r.ntup h (.inl n);rcases h with h|⟨o,h⟩
 ·exact .inl (x.keep _ _ j h)
 ·exact .inr ⟨o,x.keep _ _ j h⟩
def aZz{P:ax}{w:aK}(kn:SKn P w K κ)(enc:κ->D)(L:List Nat)(tv:Addr->TB)(td:BD):Prop:=∀D' F S H Γ σ acc N QD,Free L σ->F D'->Rp K F S H->RepG K (mt S F) H Γ σ->StV kn H D' acc->td Γ S (acc.map enc) QD ->
 (∀acc' S' H',ExtX D' S H S' H'->Rp K F S' H'->StV kn H' D' acc'->QD (acc'.map enc) S'->N H')->tv D' σ H N
def fQ1(enc:κ->D)(te:ED):BD:=fun Γ S acc Q=>te Γ S λy S1=>∃k,y=enc k/\acc.length+1<=300/\Q (acc++[y]) S1
theorem extx_upd:ExtX D' S H S (upd H D' o):=⟨λa o n _ e=>by rw[upd_ne n];exact e,λa h=>by
  by_cases e:a=D'
  ·subst e;rw[aQ6];exact λz=>by cases z
  ·rw[upd_ne e];exact h,λa h=>.inl h⟩
theorem fQ2(r:Rp K F S H)(hF:F D')(ho:Clt o):Rp K F S (upd H D' o) :=
 ⟨λa u e=>(r.obj a u e).keep (extx_upd.kp hF) (upd_ne (by rintro rfl;rw[(r.frm a hF).2] at e;cases e)),λa h=>by
   obtain⟨⟨ys,e,ct⟩,h2⟩:=r.frm a h
   by_cases z:a=D'
   ·subst z;exact⟨⟨_,aQ6,ho⟩,h2⟩
   ·exact⟨⟨ys,by rw[upd_ne z];exact e,ct⟩,h2⟩⟩
theorem cX2{kn:SKn P w K κ}(hrep:∀M H k v,RepV K M H (enc k) v->kn.rp H v k){L:List Nat}{te:ED}:aZz kn enc L (λD'=>cX0 kn D' (upE K te)) (fQ1 enc te):=by
 intro D' F S H Γ σ acc N QD _ G r g st q c;refine⟨F,S,Γ,_,r,g,q,λv d H1 S1 j J v1 ⟨k,e,U,O⟩=>?_⟩;have Y:=(r.frm D' G).2;obtain⟨φ0,h0⟩:=st.at
 have Z:H1 D'=H D':=by rw[h0];exact j.keep _ _ Y h0
 have B:=st.keep Z (fQ0 r j);subst e;refine⟨acc,k,B,hrep _ _ _ _ v1,by simpa using U,fun φ z=>c (acc++[k]) S1 _ (j.x.trans extx_upd) (fQ2 J G trivial) z (by rw[bK];exact O)⟩
theorem cX3{kn:SKn P w K κ}(hg:CG K L L' g gd)(hb:aZz kn enc L' tv tb){D':Addr}{F:Am}{S:Sto}{H:Hp}{Γ:Gm}{σ:St}{acc:List κ}{N:Hp->Prop}{QD:List D->Sto->Prop}{J:It}{xs:List D}{G:Sto->Prop}
  (f:Free L σ) (hF:F D') (r:Rp K F S H) (gm:RepG K (mt S F) H Γ σ) (st:StV kn H D' acc) (it:∀S2 H2,ExtX D' S H S2 H2->Rp K F S2 H2->G S2->(∀i d,xs[i]?=some d->J.go i H2/\∀x H3,J.yld i H2 x H3->Ext S2 H2 S2 H3/\Rp K F S2 H3/\RepV K (mt S2 F) H3 d x)/\J.stop xs.length H2)
  (q:aZd gd tt tb G Γ xs (acc.map enc) S QD) (c:∀acc' S' H',ExtX D' S H S' H'->Rp K F S' H'->StV kn H' D' acc'->QD (acc'.map enc) S'->N H'):cQa J σ g (upT K tt) (tv D') N H:=by
 refine⟨λi m H'=>m=xs.length-i/\i<=xs.length/\∃S' acc',ExtX D' S H S' H'/\Rp K F S' H'/\StV kn H' D' acc'/\aZd gd tt tb G Γ (xs.drop i) (acc'.map enc) S' QD,⟨xs.length,by simp,Nat.zero_le _,S,acc,(Ext.refl _ _).x,r,st,by simpa using q⟩,?_⟩
 rintro i m H' ⟨rfl,hi,S',acc',x2,r2,U,f2⟩;have g2:=gm.keep (x2.kp hF)
 by_cases Y:i<xs.length
 ·rw[aX8 Y] at f2;obtain⟨hG,f2⟩:=f2;obtain⟨hgo,hy⟩:=(it S' H' x2 r2 hG).1 i xs[i] (af Y);refine .inr ⟨hgo,λB=>∃Z j,ExtX D' S H Z B/\Rp K F Z B/\StV kn B D' j/\aZd gd tt tb G Γ (xs.drop (i+1)) (j.map enc) Z QD,λB z=>⟨xs.length-(i+1),by omega,rfl,Y,z⟩,λx H3 y3=>?_⟩
  obtain⟨x3,r3,v3⟩:=hy x H3 y3;refine hg F S' H3 Γ σ xs[i] x _ _ f r3 (g2.ext x3) v3 f2 fun Γ4 S4 σ4 H4 x4 r4 g4 wk fr4 q4=>⟨wk,F,S4,Γ4,_,r4,g4,q4,λz H5 S5 x5 r5 q5=>?_⟩;have O:=x3.trans (x4.trans x5);obtain⟨φ0,h0⟩:=U.at
  have h5:H5 D'=H' D':=by rw[h0];exact O.keep _ _ (r2.frm D' hF).2 h0
  have st5:=U.keep h5 (fQ0 r2 O);have x05:=x2.trans O.x;cases z with
  |false=>exact⟨S5,acc',x05,r5,st5,q5⟩
  |true=>exact hb D' F S5 H5 Γ4 σ4 acc' _ _ fr4 hF r5 (g4.ext x5) st5 q5 λacc6 S6 H6 x6 r6 st6 q6=>⟨S6,acc6,x05.trans x6,r6,st6,q6⟩
 ·have e:i=xs.length:=by lia
  subst e;rw[gx] at f2;exact .inl ⟨(it S' H' x2 r2 f2.1).2,c acc' S' H' x2 r2 U f2.2⟩
theorem dZo{kn:SKn P w K κ}(hg:CG K L L' g gd)(hb:aZz kn enc L' tv tb):aZz kn enc L (λD'=>cJz (upI K wi) g (upT K tt) (tv D')) (eZ8 wi gd tt tb):=by
 intro D' F S H Γ σ acc N QD fr O r Z st q c;refine⟨F,S,Γ,_,r,Z,q,λJ xs G H1 S1 B r1 it q1=>?_⟩;obtain⟨φ0,h0⟩:=st.at
 have h1:H1 D'=H D':=by rw[h0];exact B.keep _ _ (r.frm D' O).2 h0
 exact cX3 hg hb fr O r1 (Z.ext B) (st.keep h1 (fQ0 r B)) (λS2 H2 z U Y=>⟨it.go F (FE.refl _ _) S2 H2 (z.w O) U Y,it.stop F (FE.refl _ _) S2 H2 (z.w O) U Y⟩) q1 λj S' H' z=>c j S' H' (B.x.trans z)
theorem cX4{kn:SKn P w K κ}(hL:∀σ,Free L (capt is σ))(hg:CG K L L' g gd)(hb:aZz kn enc L' tv tb)
  {σ:St}{H:Hp}{Q:VK}{F:Am}{S:Sto}{Γ:Gm}{QD:List D->Sto->Prop}(r:Rp K F S H) (gm:RepG K (mt S F) H Γ σ) (q:wi Γ S λxs G S1=>aZd gd tt tb G (dZ6 is Γ) xs [] S1 QD)
  (c:∀p ks H' S',Ext S H S' H'->Rp K F S' H'->StV kn H' p ks->QD (ks.map enc) S'->Q (.ref p) H'):bQs kn is (upI K wi) g (upT K tt) tv σ H Q :=
 ⟨F,S,Γ,_,r,gm,q,λJ xs G H1 S1 x1 Z it q1 D' j φ st=>by
  have O:=Z.sn j;have fe:FE F H1 (λa=>F a\/a=D'):=λa h=>h.elim .inl λe=>.inr (by rw[e];exact j)
  have nF:¬ F D':=λh=>by
   obtain⟨⟨ys,e,_⟩,_⟩:=Z.frm D' h;rw[j] at e;cases e
  have xe:Ext S1 H1 S1 (upd H1 D' (.ext φ)):=Ext.same (aQs j);have kp:=xe.w.kpF fe;have Y:Rp K (λa=>F a\/a=D') S1 (upd H1 D' (.ext φ)):=⟨λa o e=>(Z.obj a o e).keep kp (upd_ne (by rintro rfl;rw[O] at e;cases e)),λa h=>by
   rcases h with h|h
   ·obtain⟨⟨ys,e,ct⟩,h2⟩:=Z.frm a h;exact⟨⟨ys,by rw[upd_ne (by rintro rfl;rw[j] at e;cases e)];exact e,ct⟩,h2⟩
   ·subst h;exact⟨⟨_,aQ6,trivial⟩,O⟩⟩
  have old:∀ {B H2},ExtX D' S1 (upd H1 D' (.ext φ)) B H2->Ext S1 H1 B H2:=λ{B H2} y=>⟨λa o h e=>y.keep a o (by rintro rfl;rw[j] at e;cases e) h (by rw[upd_ne (by rintro rfl;rw[j] at e;cases e)];exact e),λa h=>y.live a (xe.live a h),λa h=>by
   rcases y.new a h with z|z
   ·exact .inl z
   ·by_cases e:a=D'
    ·subst e;exact .inr j
    ·rw[upd_ne e] at z;exact .inr z⟩
  refine cX3 hg hb (hL σ) (.inr rfl) Y ((gm.ext x1).keep kp |>.capt is) st (λB H2 y Y hG=>⟨it.go _ fe B H2 (old y).w Y hG,it.stop _ fe B H2 (old y).w Y hG⟩) q1 λU S' H' y r3 st3 q3=>?_
  have less:Keep (mt S' λa=>F a\/a=D') H' (mt S' F) H':=⟨λ_ _ _ e=>e,λa h _=>λz=>h (z.elim .inl λw=>.inr (.inl w))⟩;have r4:Rp K F S' H':=⟨λa o e=>(r3.obj a o e).keep less rfl,λa h=>r3.frm a (.inl h)⟩;exact c D' U H' S' (x1.trans (old y)) r4 st3 q3⟩
def srtC(enc:κ->D)(lt:κ->κ->Bool)(b:Bool)(is:List (Option Nat))(wi:ID)(g:GD)(tt:TD)(tb:BD):ED:=fun Γ S Q=>wi Γ S λxs G S1=>aZd g tt tb G (dZ6 is Γ) xs [] S1 λacc S2=>∃ks:List κ,acc=ks.map enc/\∀out:List κ,out.Nodup->(∀t,t∈out↔t∈ks)->out.length<300/\(out.Pairwise (λa b=>lt a b=true)->newL b (out.map enc) S2 Q)
theorem fQ3(M:Am)(H:Hp)(k:Str)(v:V)(h:RepV K M H (.str k) v):v=.str k:=h
theorem bQt{α β:Type}{f:α->β}(hf:∀x y,f x=f y->x=y):∀{l m:List α},l.map f=m.map f->l=m
 |[],[],_=>rfl
 |[],_::_,h=>by cases h
 |_::_,[],h=>by cases h
 |x::l,y::m,h=>by
  rw[aL,aL] at h;injection h with h1 h2
  rw[hf _ _ h1,bQt hf h2]
theorem dJw(x y:List Str)(h:tupS x=tupS y):x=y:=by
 injection h with h
 exact bQt (λa b e=>by injection e) h
section
variable{elt target iter:Expr}{ifs:List Expr}{gs:List ft}{scope:Scope}{N':List Str}{is:List (Option Nat)}{wi:ID}{g:TG}{gd:GD}{tt:TD}{tv:Addr->TB}{tb:BD}{oc:Option Str}{m:ab->Env->Sem Unit}{b:Bool}{p pos':Pos}
theorem fQ4(L L':List Nat)(hr:Room k X.A)(hgl:Gl X "sorted")(hm:X.mg "sorted"=none)(hcalm:X.calm=true)(hN:X.N.Nodup)
  (hturn:∀it acc env,eA (.SetComp elt (⟨target,iter,ifs,0⟩::gs) scope pos') 0 it acc env=aQr target ifs iter.pos (m acc env) (.compLoop (.SetComp elt (⟨target,iter,ifs,0⟩::gs) scope pos') 0 it acc env) it env)
  (cp:Cap X.N scope N' is) (hL:∀σ,Free L (capt is σ)) (hi:PID K X target iter wi) (hgd:CG K L L' g gd)
  (hg:∀cl C fp s H,PG (aQ9 X N' scope cl C fp s H oc) target g) (ht:∀cl C fp s H,PTs (aQ9 X N' scope cl C fp s H oc) ifs (upT K tt)) (hbd:aZz (cJ8 X.prog X.w K) D.str L' tv tb) (hb:∀cl C fp s H D,PB (aQ9 X N' scope cl C fp s H oc) (m (.ref D) (hU scope cl C X.env)) (tv D))
  (hcf:∀n acc,eR n scope.names acc=ocl oc n acc:=by intro _ _;rfl) (hpc:∀h,gp h scope.names=ohp oc h:=by intro _;rfl)
  (hkind:scope.kind=.function:=by rfl) (hcell:∀y∈scope.names,y.2=.cell->oc=some y.1:=by decide +kernel)
  (hu:∀y∈scope.names,scope.names.lookup y.1=some y.2:=by decide +kernel) (hoc:∀x,oc=some x->scope.names.lookup x=some .cell:=by intro x h;cases h <;> rfl)
  (hVb:okV scope.names X.env.scope.names=true:=by first|rfl|kernel_rfl)
  (hs:∀x,cy iter X.env x=pure x:=by intro _;rfl)
  (h1:aD [kf elt (⟨target,iter,ifs,0⟩::gs) scope pos'] X.env=(false,eval (kf elt (⟨target,iter,ifs,0⟩::gs) scope pos') X.env)::aD [] X.env:=by rfl) (h3:(cM pos (aD [] X.env)).any (·.1)=false:=by rfl) :
  PD K X (.Call (.Name "sorted" p) [.SetComp elt (⟨target,iter,ifs,0⟩::gs) scope pos'] [] pos) (srtC D.str HT.ltS b is wi gd tt tb) :=
 .of (aJ0 (bXp rfl hcalm) hgl hm aJ1 (aXp (bJt rfl hcalm hN hturn cp hi.o hg ht hb hcf hpc hkind hcell hu hoc hVb hs) bQ8 h1) (by decide) (by decide) h1 h3) fun σ H Q Z=>Z.el λF S Γ QD r gm q c =>
  show bQs (cJ8 X.prog X.w K) is (upI K wi) g (upT K tt) tv σ H (λv H1=>dZm X.w [v] H1 Q) from cX4 hL hgd hbd r gm q λp' ks H' S' x1 r1 st Y=>by
   obtain⟨ks',hk,B⟩:=Y;have G:=bQt (λa b e=>by injection e) hk
   subst G;obtain⟨es,ep,t,ps,s1,s2,s3,s4,s5,j⟩:=st;obtain⟨U,q3⟩:=B (ps.map (·.2)) s5 j;have sa:kc (es.toList.map (·.2)) (ps.map (·.2)):=by
    clear U q3 s5 j s3 B s1;generalize es.toList.map (·.2)=l at s4
    induction s4 with
    |nil=>exact .nil
    |@cons v q l2 ps h1 h2 ih =>
     obtain⟨h1,O⟩:=h1;rw[O] at h1;obtain⟨tk,e⟩:=h1;subst e;exact .cons _ _ ih
   refine⟨_,ps.map (·.2),rfl,⟨p',es,ep,t,rfl,s1,s3.1,s2,λz=>by rw[s3.2.2 z];exact Nat.zero_le _,sa⟩,s5,U,λl out J pm pw=>?_⟩
   exact Cn.new (Cn.shift c x1) r1 J (gQ5 out) ((B out (pm.nodup_iff.mpr s5) λt=>(pm.mem_iff).trans (j t)).2 pw)
theorem fQ5(L L':List Nat)(hr:Room k X.A)(hgl:Gl X "sorted")(hm:X.mg "sorted"=none)(hcalm:X.calm=true)(hN:X.N.Nodup)
  (hturn:∀it acc env,eA (.SetComp elt (⟨target,iter,ifs,0⟩::gs) scope pos') 0 it acc env=aQr target ifs iter.pos (m acc env) (.compLoop (.SetComp elt (⟨target,iter,ifs,0⟩::gs) scope pos') 0 it acc env) it env)
  (cp:Cap X.N scope N' is) (hL:∀σ,Free L (capt is σ)) (hi:PID K X target iter wi) (hgd:CG K L L' g gd)
  (hg:∀cl C fp s H,PG (aQ9 X N' scope cl C fp s H oc) target g) (ht:∀cl C fp s H,PTs (aQ9 X N' scope cl C fp s H oc) ifs (upT K tt)) (hbd:aZz (cJ9 X.prog X.w K) tupS L' tv tb) (hb:∀cl C fp s H D,PB (aQ9 X N' scope cl C fp s H oc) (m (.ref D) (hU scope cl C X.env)) (tv D))
  (hcf:∀n acc,eR n scope.names acc=ocl oc n acc:=by intro _ _;rfl) (hpc:∀h,gp h scope.names=ohp oc h:=by intro _;rfl)
  (hkind:scope.kind=.function:=by rfl) (hcell:∀y∈scope.names,y.2=.cell->oc=some y.1:=by decide +kernel)
  (hu:∀y∈scope.names,scope.names.lookup y.1=some y.2:=by decide +kernel) (hoc:∀x,oc=some x->scope.names.lookup x=some .cell:=by intro x h;cases h <;> rfl)
  (hVb:okV scope.names X.env.scope.names=true:=by first|rfl|kernel_rfl)
  (hs:∀x,cy iter X.env x=pure x:=by intro _;rfl) (hK:X.K=K:=by rfl)
  (h1:aD [kf elt (⟨target,iter,ifs,0⟩::gs) scope pos'] X.env=(false,eval (kf elt (⟨target,iter,ifs,0⟩::gs) scope pos') X.env)::aD [] X.env:=by rfl) (h3:(cM pos (aD [] X.env)).any (·.1)=false:=by rfl) :
  PD K X (.Call (.Name "sorted" p) [.SetComp elt (⟨target,iter,ifs,0⟩::gs) scope pos'] [] pos) (srtC tupS HT.lexS b is wi gd tt tb) :=
 .of (aJ0 (aXk (lt64 hr) hK rfl hcalm) hgl hm aJ1 (aXp (bJt rfl hcalm hN hturn cp hi.o hg ht hb hcf hpc hkind hcell hu hoc hVb hs) bQ8 h1) (by decide) (by decide) h1 h3) fun σ H Q Y=>Y.el λF S Γ QD r gm q c =>
  show bQs (cJ9 X.prog X.w K) is (upI K wi) g (upT K tt) tv σ H (λv H1=>cZz X.w K [v] H1 Q) from cX4 hL hgd hbd r gm q λp' ks H' S' Z J st U=>by
   obtain⟨ks',hk,O⟩:=U;have j:=bQt dJw hk;subst j;obtain⟨es,ep,t,ps,s1,s2,s3,s4,s5,G⟩:=st;obtain⟨q2,q3⟩:=O (ps.map (·.2)) s5 G;have few:t.plain=true->es.size<=1:=λz=>by
    have hl:es.size=ps.length:=by have:=bL s4;simpa using this
    have h0:=s3.2.2 z;rw[hl];cases ps with
    |nil=>exact Nat.zero_le _
    |cons a ps =>
     cases ps with
     |nil=>exact Nat.le_refl _
     |cons b ps =>
      simp only[aL] at s5 h0;rw[h0 a.2 (by simp),h0 b.2 (by simp)] at s5
      exact absurd s5 (by simp)
   refine⟨_,ps.map (·.2),rfl,⟨p',es,ep,t,ps,rfl,s1,s3.1.fits,s2,few,s4,rfl⟩,s5,q2,λl ys out B pm pw pp=>?_⟩;exact Cn.new (Cn.shift c Z) J B (bXo J pp) ((O out (pm.nodup_iff.mpr s5) λt=>(pm.mem_iff).trans (G t)).2 pw)
end
end
end L2
set_option maxHeartbeats 4000000
namespace HT
open PySem PyProof.Rows
def LtAt(A:aU)(s:ag)(u v:ab)(b:Bool):Prop:=∀(prog:ax) (w:aK) (E:ab->ag->Prop) (Q:ab->ag->Prop),Q (.bool b) s->aE (aF prog w) A (richCompare .Lt u v) Q E s
inductive LexAt(A:aU)(s:ag):List ab->List ab->Bool->Prop
 |nn:LexAt A s [] [] false
 |nc {v vs}:LexAt A s [] (v::vs) true
 |cn {u us}:LexAt A s (u::us) [] false
 |eq {u v us vs b}:cS A s u v true->LexAt A s us vs b->LexAt A s (u::us) (v::vs) b
 |ne {u v us vs b}:cS A s u v false->LtAt A s u v b->LexAt A s (u::us) (v::vs) b
section
open PySem.SeqAt
open PySem.AutoSeq1 (wpAny_loadPart')
open PySem.MeetsSeq PySem.MeetsSeq2 PySem.MeetsSeq3
theorem cX5:∀{us vs:List ab}{o:Bool},LexAt A s us vs o->us.zip vs=[]->o=decide (us.length<vs.length)
 |_,_,_,.nn,_=>by simp
 |_,_,_,.nc,_=>by simp
 |_,_,_,.cn,_=>by simp
 |_,_,_,.eq _ _,h=>by rw[cI] at h;cases h
 |_,_,_,.ne _ _,h=>by rw[cI] at h;cases h
theorem bJu(l b:Addr)(items items2:Array ab)(n n2:Nat)(dd dd2:Option Addr)(sl sl2:Array (Option ab))(o:Bool) :
  Meets (cr.«tuple.__lt__» ⟨[.ref l,.ref b],[]⟩)
   (λA R s=>s.heap.get? l=some { cls:=.type "tuple",dict:=dd,data:=.seq items n,slots:=sl }/\s.heap.get? b=some { cls:=.type "tuple",dict:=dd2,data:=.seq items2 n2,slots:=sl2 } /\
    LexAt A.in1 s items.toList items2.toList o/\R (.ok (.ret (.bool o))) s) :=
 .of_wp λprog w A R s h=>by
  obtain⟨Y,g,d,U,os⟩:=s;obtain⟨hl,hb,hx,h⟩:=h;have f2:=gK;have z1:items.size=items.toList.length:=by simp
  have z2:items2.size=items2.toList.length:=by simp
  wp_walk using bu hl,bu hb,gu _ (λrest b s'=>b.1=none/\s'=⟨Y,g,d,U,os⟩/\∃ (vs ws:List ab),rest=vs.zip ws /\
   LexAt A.in1 ⟨Y,g,d,U,os⟩ vs ws o/\vs.length+items2.size=ws.length+items.size) _
  case turn =>
   rintro⟨y,x⟩ rest b s' ⟨D,rfl,vs,ws,hz,hx,hlen⟩;cases hx with
   |nn=>rw[fZ] at hz;cases hz
   |nc=>rw[fZ] at hz;cases hz
   |cn=>rw[d8] at hz;cases hz
   |eq he hx =>
    rw[cI] at hz;injection hz with z j
    injection z with G B
    subst G B;simp only[az] at hlen;refine aa (he prog w _ _ ?_)
    wp_walk
    exact⟨rfl,rfl,_,_,j,hx,by lia⟩
   |ne he O =>
    rw[cI] at hz;injection hz with z j
    injection z with G B
    subst G B;refine aa (he prog w _ _ ?_);have J:=λQ E h=>O prog w E Q h
    wp_walk using J
    exact⟨_,rfl,by simpa using h⟩
  case fin =>
   rintro⟨b1,b2⟩ s' ⟨D,rfl,vs,ws,hz,hx,hlen⟩;simp only at D;subst D;have Z:o=decide (items.size<items2.size):=by
    rw[cX5 hx hz.symm]
    congr 1
    apply propext;lia
   rw[Z] at h
   wp_walk
   exact⟨_,rfl,by simpa [fu] using h⟩
  case h =>
   exact⟨rfl,rfl,items.toList,items2.toList,rfl,hx,by lia⟩
theorem cQu(l b:Addr)(us vs:Array ab)(n n2:Nat)(dd dd2:Option Addr)(sl sl2:Array (Option ab))(o:Bool)(k:Nat):∀i:Nat,us.size-i=k->i<=us.size->i<=vs.size ->
  Meets (cr.«list.__eq__.loop» ⟨[.ref l,.ref b,er i,er 0],[]⟩) (λA R s=>(s.heap.get? l=some { cls:=.type "list",dict:=dd,data:=.seq us n,slots:=sl }/\s.heap.get? b=some { cls:=.type "list",dict:=dd2,data:=.seq vs n2,slots:=sl2 }) /\
   LexAt A.in1 s (us.toList.drop i) (vs.toList.drop i) o/\R (.ok (.ret (.bool o))) s):=by
 have dn:∀(xs:Array ab) (i:Nat),xs.size<=i->xs.toList.drop i=[]:=λxs i h=>bE (by simpa using h)
 have J:∀(xs:Array ab) (i:Nat) (h:i<xs.size),xs.toList.drop i=xs[i]::xs.toList.drop (i+1):=λxs i h=>by rw[cj (by simpa using h)];simp
 have an:∀(xs:Array ab) (i:Nat),xs.size<=i->xs[((i:Nat):Int).toNat]?=none:=λxs i h=>by simp;exact h
 have ac:∀(xs:Array ab) (i:Nat) (h:i<xs.size),xs[((i:Nat):Int).toNat]?=some xs[i]:=λxs i h=>by simp[h]
 have tail:∀{A:aU}{s:ag}{o:Bool}{i:Nat},i<=us.size->i<=vs.size->us.size<=i\/vs.size<=i->LexAt A s (us.toList.drop i) (vs.toList.drop i) o->o=decide (us.size<vs.size):=λ{A s o i} h1 h2 h hx=>by
  have Y:(us.toList.drop i).zip (vs.toList.drop i)=[]:=by rcases h with h|h <;> rw[dn _ _ h] <;> simp
  rw[cX5 hx Y]
  congr 1
  apply propext;simp;omega
 induction k with
 |zero =>
  intro i hk hi j prog w A R s h;obtain⟨Z,g,d,O,os⟩:=s;obtain⟨⟨gl,z⟩,hx,h⟩:=h
  wp_walk using bu gl,bu z
  rw[an us i (by omega)]
  wp_walk using bu gl,bu z
  rw[tail hi j (.inl (by omega)) hx] at h
  exact h
 |succ k U =>
  intro i hk hi j prog w A R s h;obtain⟨Z,g,d,O,os⟩:=s;obtain⟨⟨gl,z⟩,hx,h⟩:=h
  wp_walk using bu gl,bu z
  rw[ac us i (by omega)]
  rcases Nat.lt_or_ge i vs.size with B|B
  ·rw[ac vs i B];have hc:((i:Int)+1)=((i+1:Nat):Int):=by push_cast;rfl
   rw[J us i (by omega),J vs i B] at hx
   cases hx with
   |eq he hx =>
    refine aa (he prog w _ _ ?_)
    wp_walk
    rw[hc];exact⟨dh plain_eq_loop _,ci entry_eq_loop (by
     rw[bJ plain_eq_loop _];exact U (i+1) (by omega) (by omega) (by omega) prog w A R _ ⟨⟨gl,z⟩,hx,h⟩)⟩
   |ne he G =>
    refine aa (he prog w _ _ ?_)
    wp_walk using bu gl,bu z
    rw[ac us i (by omega),ac vs i B]
    have D:=λQ E h=>G prog w E Q h
    wp_walk using D
    exact h
  ·rw[an vs i B]
   wp_walk using bu gl,bu z
   rw[tail hi j (.inr B) hx] at h;exact h
theorem gQ7(l b:Addr)(us vs:Array ab)(n n2:Nat)(dd dd2:Option Addr)(sl sl2:Array (Option ab))(o:Bool) :
  Meets (cr.«list.__lt__» ⟨[.ref l,.ref b],[]⟩) (λA R s=>(s.heap.get? l=some { cls:=.type "list",dict:=dd,data:=.seq us n,slots:=sl }/\s.heap.get? b=some { cls:=.type "list",dict:=dd2,data:=.seq vs n2,slots:=sl2 }) /\
   LexAt A.in1 s us.toList vs.toList o/\R (.ok (.ret (.bool o))) s):=by
 intro prog w A R s h;obtain⟨G,g,d,D,os⟩:=s;obtain⟨⟨gl,j⟩,B,h⟩:=h;have z:=AutoSeq1.sub_list_list
 wp_walk using bu gl,bu j
 exact⟨dh plain_eq_loop _,ci entry_eq_loop (by
  rw[bJ plain_eq_loop _];exact cQu l b us vs n n2 dd dd2 sl sl2 o _ 0 rfl (Nat.zero_le _) (Nat.zero_le _) prog w A R _ ⟨⟨gl,j⟩,B,h⟩)⟩
end
theorem ltAt_lst(hl:s.heap.IsList l us)(hb:s.heap.IsList b vs)(hx:LexAt A.in1 s us.toList vs.toList o)(hu:A.units<bN):LtAt A s (.ref l) (.ref b) o:=by
 intro prog w E Q h;obtain⟨⟨cls,dd,data,sl⟩,G,J,n,hd⟩:=id hl;obtain⟨⟨O,D,data2,B⟩,j,z,U,hd2⟩:=id hb;simp only at J hd z hd2;subst J hd z hd2;exact fL ⟨_,G,rfl⟩ ⟨_,j,rfl⟩ PySem.F.slot_list_lt PySem.F.entry_list_lt (PySem.F.args_list_lt_2 _ _) (gQ7 l b us vs n U dd D sl B o) ⟨⟨G,j⟩,hx,⟨(λx=>nomatch x),h⟩⟩ hu
theorem ltAt_tup(hl:gE s.heap l items)(hb:gE s.heap b items2)(hx:LexAt A.in1 s items.toList items2.toList o)(hu:A.units<bN):LtAt A s (.ref l) (.ref b) o:=by
 intro prog w E Q h;obtain⟨⟨cls,dd,data,sl⟩,G,J,n,hd⟩:=id hl;obtain⟨⟨O,D,data2,B⟩,j,z,U,hd2⟩:=id hb;simp only at J hd z hd2;subst J hd z hd2;exact fL ⟨_,G,rfl⟩ ⟨_,j,rfl⟩ fU ic (gX _ _) (bJu l b items items2 n U dd D sl B o)
  ⟨G,j,hx,⟨(λx=>nomatch x),h⟩⟩ hu
end HT
namespace L2
open PySem PySem.Spec PyProof.Rows
def lexN(lt:D->D->Bool):List D->List D->Bool
 |[],[]=>false
 |[],_::_=>true
 |_::_,[]=>false
 |x::xs,y::ys=>if x=y then lexN lt xs ys else lt x y
def ltN:Nat->D->D->Bool
 |_,.int i,.int j=>decide (i<j)
 |_,.str x,.str y=>HT.ltS x y
 |n+1,.tup xs,.tup ys=>lexN (ltN n) xs ys
 |n+1,.lst xs,.lst ys=>lexN (ltN n) xs ys
 |_,_,_=>false
def okLs(ok:D->D->Bool)(n:Nat):List D->List D->Bool
 |x::xs,y::ys=>okE n x y&&(if x=y then okLs ok n xs ys else ok x y)
 |_,_=>true
def okL:Nat->D->D->Bool
 |_,.int _,.int _=>true
 |_,.str _,.str _=>true
 |n+1,.tup xs,.tup ys=>okLs (okL n) n xs ys
 |n+1,.lst xs,.lst ys=>okLs (okL n) n xs ys
 |_,_,_=>false
section
variable{X:Cx}{pins:List (Addr×Obj)}{σ:St}{H:Hp}{s:ag}{M:Am}
theorem cX6(heq:∀{d e:D}{x y:V}{u v:ab},RepV X.K M H d x->RepV X.K M H e y->RelV x u->RelV y v->okE n d e=true->cS A s u v (decide (d=e)))
  (hlt:∀{d e:D}{x y:V}{u v:ab},RepV X.K M H d x->RepV X.K M H e y->RelV x u->RelV y v->okL n d e=true->HT.LtAt A s u v (ltN n d e)) :
  ∀{ds es:List D}{xs ys:List V}{us vs:List ab},RepL X.K M H ds xs->RepL X.K M H es ys->Vals xs us->Vals ys vs->okLs (okL n) n ds es=true->HT.LexAt A s us vs (lexN (ltN n) ds es)
 |[],[],_,_,_,_,p,q,r,t,_=>by
  subst p;subst q;cases r;cases t;exact .nn
 |[],e::es,_,_,_,_,p,q,r,t,_=>by
  subst p;obtain⟨v,vs,rfl,_,_⟩:=q;cases r;cases t;exact .nc
 |d::ds,[],_,_,_,_,p,q,r,t,_=>by
  subst q;obtain⟨v,vs,rfl,_,_⟩:=p;cases r;cases t;exact .cn
 |d::ds,e::es,_,_,_,_,p,q,r,t,o=>by
  obtain⟨x,xs,rfl,G,p2⟩:=p;obtain⟨y,ys,rfl,B,U⟩:=q;cases r with
  |cons z O =>
   cases t with
   |cons t1 J =>
    unfold okLs at o;rw[aV] at o;have h1:=heq G B z t1 o.1;unfold lexN
    by_cases j:d=e
    ·rw[if_pos j];rw[if_pos j] at o;rw[decide_eq_true j] at h1;exact .eq h1 (cX6 heq hlt p2 U O J o.2)
    ·rw[if_neg j];rw[if_neg j] at o;rw[decide_eq_false j] at h1;exact .ne h1 (hlt G B z t1 o.2)
theorem gXg(I:Inv X pins σ H s):∀(n:Nat) {A:aU}{d e:D}{x y:V}{u v:ab},A.units+n<bN->RepV X.K M H d x->RepV X.K M H e y->RelV x u->RelV y v->okL n d e=true->HT.LtAt A s u v (ltN n d e):=by
 intro n
 induction n with
 |zero =>
  intro A d e x y u v U h h' r r' o;cases d <;> cases e <;> first|(cases o;done)|skip
  all_goals subst h;subst h';obtain⟨t,rfl⟩:=r;obtain⟨z,rfl⟩:=r'
  ·intro prog w E Q q;exact(kL q)
  ·intro prog w E Q q;exact HT.rcLt_st A s _ _ _ _ prog w E Q q
 |succ n O =>
  intro A d e x y u v U h h' r r' o;cases d <;> cases e <;> first|(cases o;done)|skip
  ·subst h;subst h';obtain⟨t,rfl⟩:=r;obtain⟨z,rfl⟩:=r';intro prog w E Q q;exact(kL q)
  ·subst h;subst h';obtain⟨t,rfl⟩:=r;obtain⟨z,rfl⟩:=r';intro prog w E Q q;exact HT.rcLt_st A s _ _ _ _ prog w E Q q
  ·rename_i ds es;obtain⟨a,xs,rfl,t,l⟩:=h;obtain⟨b,ys,rfl,z,J⟩:=h';cases r;cases r';obtain⟨us,G,pl,_⟩:=I.tuple t.sq;obtain⟨vs,B,j,_⟩:=I.tuple z.sq;refine HT.ltAt_tup pl j ?_ (by lia)
   exact cX6 (λp q r r' o=>(eq3 I n (by lia) p q r r' o).eq) (λp q r r' o=>O (by lia) p q r r' o) l J G B o
  ·rename_i ds es;obtain⟨a,xs,rfl,t,l⟩:=h;obtain⟨b,ys,rfl,z,J⟩:=h';cases r;cases r';obtain⟨us,G,pl,_⟩:=I.list t.sq;obtain⟨vs,B,j,_⟩:=I.list z.sq;refine HT.ltAt_lst pl.isList j.isList ?_ (by lia)
   exact cX6 (λp q r r' o=>(eq3 I n (by lia) p q r r' o).eq) (λp q r r' o=>O (by lia) p q r r' o) l J G B o
end
end L2
set_option maxHeartbeats 1000000
namespace L2
open PySem PySem.Spec PyProof.Rows
def Kp(h h':bb):Prop:=∀b o,h.get? b=some o->h'.get? b=some o
theorem Kp.trans(x:Kp a b)(y:Kp b c):Kp a c:=λd o e=>y d o (x d o e)
end L2
set_option maxHeartbeats 4000000
namespace L2
open PySem PySem.Spec PyProof.Rows
end L2
set_option maxHeartbeats 1000000
namespace L2
open PySem PySem.Spec PyProof.Rows
section
variable{X:Cx}{K:Fg}{pos:Pos}{k:Nat}
theorem fQ6(M:Am)(H:Hp)(k:List Str)(v:V)(h:RepV K M H (tupS k) v):dT K dS H v k:=by
 obtain⟨a,xs,e,t,l⟩:=h;exact⟨a,xs,e,t.sq,aJk l⟩
theorem gQ8:aZz (cJ8 P w K) D.str L (λD'=>cX0 (cJ8 P w K) D' (upE K te)) (fQ1 D.str te):=cX2 fQ3
theorem gQ9:aZz (cJ9 P w K) tupS L (λD'=>cX0 (cJ9 P w K) D' (upE K te)) (fQ1 tupS te):=cX2 fQ6
end
end L2
namespace L2
open PySem PyProof.Rows
section
variable{K:ar}{k:Nat}
theorem e_fn{st:Stmt}(Fn:Fun K x x st f fd)(S:FnScope N ps (aQ3 st))
  (len:∀ds S Q,sp ds S Q->ds.length=ps.length)
  (h:∀ (cdv:ab) (A:aU) (outer:List Env) (s:ag) (H:Hp) (E:XK),Room k (A.deeper (i6 x (aQ3 st) s.heap.objs.size f cdv)) ->
   ∃t,PSsD K (cxOf CX0 P w K mg base N x (aQ3 st) f cdv A outer s H E).nox (aZ6 st) t/\∀ds S Q,sp ds S Q->t (cJ5 Q) (aJv N ds) S):FnOk P w K mg base CX0 (k+1) f fd ps (spU K sp):=by
 refine Fn.ok S (λvs H Q E B=>by obtain⟨F,S,ds,QD,r,l,j,c⟩:=B;rw[l.length];exact len ds S QD j) (λcdv A outer s H vs Q Z J B=>?_)
 obtain⟨F,S,ds,QD,r,l,j,c⟩:=B;obtain⟨t,h1,h2⟩:=h cdv A outer s H Z J;have fin:∀v d H' S',Ext S H S' H'->Rp K F S' H'->RepV K (mt S' F) H' d v->rtD QD d S'->Q v H':=λv d H' S' D z v1 G=>by
  obtain⟨U,Y,hs,O,q⟩:=G;exact c v U H' Y (D.trans (Ext.less hs)) (z.less hs) ((dZf z hs O).1 v v1) q
 exact⟨_,h1.o,F,S,aJv N ds,cJ5 QD,r,bXl l,h2 ds S QD j,fun Γ' S' σ' H' D z g1 q=>fin .non .non H' S' D z (by rfl) q,fin,λ_ _ _ _ _ _ _ q=>q.elim,λ_ _ _ _ _ _ _ q=>q.elim⟩
end
theorem us1{p:List ab->Prop}(h:∀a,p [a])(us:List ab)(ee:us.length=1):p us:=by
 cases us with
 |nil=>cases ee
 |cons a us =>
  cases us with
  |nil=>exact h a
  |cons z us=>exact absurd (Nat.succ.inj ee) (Nat.succ_ne_zero _)
theorem us2{p:List ab->Prop}(h:∀a b,p [a,b])(us:List ab)(ee:us.length=2):p us:=by
 cases us with
 |nil=>cases ee
 |cons a us =>
  cases us with
  |nil=>cases ee
  |cons b us =>
   cases us with
   |nil=>exact h a b
   |cons z us=>exact absurd (Nat.succ.inj (Nat.succ.inj ee)) (Nat.succ_ne_zero _)
theorem us3{p:List ab->Prop}(h:∀a b c,p [a,b,c])(us:List ab)(ee:us.length=3):p us:=by
 cases us with
 |nil=>cases ee
 |cons a us =>
  cases us with
  |nil=>cases ee
  |cons b us =>
   cases us with
   |nil=>cases ee
   |cons c us =>
    cases us with
    |nil=>exact h a b c
    |cons z us=>exact absurd (Nat.succ.inj (Nat.succ.inj (Nat.succ.inj ee))) (Nat.succ_ne_zero _)
theorem us4{p:List ab->Prop}(h:∀a b c d,p [a,b,c,d])(us:List ab)(ee:us.length=4):p us:=by
 cases us with
 |nil=>cases ee
 |cons a us =>
  cases us with
  |nil=>cases ee
  |cons b us =>
   cases us with
   |nil=>cases ee
   |cons c us =>
    cases us with
    |nil=>cases ee
    |cons d us =>
     cases us with
     |nil=>exact h a b c d
     |cons z us=>exact absurd (Nat.succ.inj (Nat.succ.inj (Nat.succ.inj (Nat.succ.inj ee)))) (Nat.succ_ne_zero _)
theorem fsc{N ps:List Str}{sc:Scope}(a:sc.kind=.function:=by rfl)(b:sc.isCoroutine=false:=by rfl)(c:sc.isGenerator=false:=by rfl)(d:N.Nodup:=by decide +kernel)(e:N.take ps.length=ps:=by rfl)(f:∀x∈ps,sc.names.lookup x=some .local\/sc.names.lookup x=some .cell:=by decide +kernel)(g:∀y∈sc.names,y.2≠.free:=by decide +kernel):FnScope N ps sc:=⟨a,b,c,d,e,f,g⟩
theorem gl_str{K:ar}(X:K.In h)(G:h.Ns aX mg)(a:bO K aX x=some (some v))(b:∃tk,v=.str z tk):∃tk,mg x=some (.str z tk):=by
 obtain⟨tk,rfl⟩:=b;exact⟨tk,jC X G a⟩
end L2
namespace Toy
open PySem L2
def top(i:Nat):Stmt:=PySem.Challenge.pw_corepetals_k21_whole_most_without.main.body.getD i (.Pass ⟨0,0,0,0⟩)
end Toy
set_option maxHeartbeats 4000000
namespace L2
open PySem PySem.Spec PyProof.Rows
end L2
set_option maxHeartbeats 1000000
namespace L2
open PySem
def bXr:Str:=bC "abcdefghijklmnopqrstuvwxyz"
end L2
set_option maxHeartbeats 4000000
namespace L2
open PySem
theorem z9999(h:n<=9999):n<=sizeLine:=by rw[bH];lia
theorem aJw:∀l:List Str,aZ3 (l.map D.str)=true
 |[]=>rfl
 |x::l=>by show(true&&aZ3 (l.map D.str))=true;rw[aJw l];rfl
theorem aXv:∀l:List (List Str),aZ3 (l.map tupS)=true
 |[]=>rfl
 |x::l=>by
  show(aZ3 (x.map D.str)&&aZ3 (l.map tupS))=true;rw[aJw x,aXv l];rfl
theorem dJx(a b:List Str):okE 8 (tupS a) (tupS b)=true:=by
 show((a.map D.str).zip (b.map D.str)).all (λp=>okE 7 p.1 p.2)=true;rw[List.zip_map,gv,bI];rintro⟨a,b⟩ _
 rfl
end L2
namespace Toy
open PySem L2
end Toy
namespace Toy
variable{α:Type}
def ch:List α->Nat->List (List α)
 |_,0=>[[]]
 |[],_+1=>[]
 |x::xs,n+1=>(ch xs n).map (x::·)++ch xs (n+1)
theorem aQo(xs:List α):ch xs 0=[[]]:=by cases xs <;> rfl
theorem eZf(n:Nat):ch ([]:List α) (n+1)=[]:=rfl
theorem aQi(x:α)(xs:List α)(n:Nat):ch (x::xs) (n+1)=(ch xs n).map (x::·)++ch xs (n+1):=rfl
theorem ch_big:∀(xs:List α) (n:Nat),xs.length<n->ch xs n=[]
 |[],0,h=>by simp at h
 |[],n+1,_=>rfl
 |x::xs,0,h=>by simp at h
 |x::xs,n+1,h=>by
  simp only[az] at h;rw[aQi,ch_big xs n (by lia),ch_big xs (n+1) (by lia)]
  rfl
theorem bZt:∀(xs:List α) (n:Nat),(ch xs n).length<=2^xs.length
 |[],0=>by simp[ch]
 |[],n+1=>by simp[ch]
 |x::xs,0=>by
  rw[aQo];exact Nat.one_le_two_pow
 |x::xs,n+1=>by
  rw[aQi,au,ah,az,Nat.pow_succ]
  have:=bZt xs n
  have:=bZt xs (n+1)
  lia
theorem ch_mem:∀{xs:List α}{n:Nat}{s:List α},s∈ch xs n->s.length=n/\s.Sublist xs
 |[],0,s,h=>by
  have:s=[]:=by simpa [ch] using h
  subst this;exact⟨rfl,.slnil⟩
 |[],n+1,s,h=>by simp[ch] at h
 |x::xs,0,s,h=>by
  have:s=[]:=by simpa [ch] using h
  subst this;exact⟨rfl,gy _⟩
 |x::xs,n+1,s,h=>by
  rw[aQi,aY,aR] at h;rcases h with⟨r,j,rfl⟩|h
  ·obtain⟨a,b⟩:=ch_mem j;exact⟨by simp[a],b.cons_cons x⟩
  ·obtain⟨a,b⟩:=ch_mem h;exact⟨a,b.cons x⟩
theorem fQ7(xs:List α)(i n:Nat)(h:i<xs.length):ch (xs.drop i) (n+1)=(ch (xs.drop (i+1)) n).map (xs[i]::·)++ch (xs.drop (i+1)) (n+1):=by
 rw[cj h]
 rfl
theorem aZp:∀{xs:List α}{s:List α},s.Sublist xs->s∈ch xs s.length
 |[],s,h=>by
  have:=iD.mp h
  subst this;simp[ch]
 |x::xs,[],h=>by simp[ch]
 |x::xs,y::s,h=>by
  rw[az,aQi,aY,aR];cases h with
  |cons _ h=>right;exact aZp h
  |cons_cons _ h=>left;exact⟨s,aZp h,rfl⟩
end Toy
namespace Toy
variable{α:Type}
def ext(lt:α->α->Bool)(z:α)(sets:List α)(s:List α):List (List α):=(sets.filter λo=>lt (s.getLastD z) o).map λo=>s++[o]
theorem aX9:∀{s:List α},s≠[]->s.getLastD z∈s
 |[],h=>absurd rfl h
 |[x],_=>by simp
 |x::y::s,_=>by
  have:=aX9 (z:=z) (s:=y::s) (by simp)
  simp only[jn] at this ⊢;exact ak _ this
theorem getLastD_cons':∀{s:List α},s≠[]->(x::s).getLastD z=s.getLastD z
 |[],h=>absurd rfl h
 |y::s,_=>by simp[jn]
theorem dZp:∀xs:List α,ch xs 1=xs.map λx=>[x]
 |[]=>rfl
 |x::xs=>by rw[aQi,aQo,dZp xs];rfl
theorem bXs{β:Type}{f g:α->List β}:∀{l:List α},(∀a∈l,f a=g a)->l.flatMap f=l.flatMap g
 |[],_=>rfl
 |a::l,h=>by rw[bq,bq,h a ai,bXs λb j=>h b (ak _ j)]
theorem bZu:∀{sets:List α},sets.Pairwise (λa b=>lt a b=true/\lt b a=false)->(∀a,lt a a=false)->∀k,(ch sets (k+1)).flatMap (ext lt z sets)=ch sets (k+2)
 |[],_,_,k=>rfl
 |x::xs,J,irr,k=>by
  obtain⟨D,j⟩:=aN.mp J;have out:∀s:List α,s≠[]->(∀o∈s,o∈xs)->ext lt z (x::xs) s=ext lt z xs s:=λs hs hm=>by
   unfold ext;rw[cb,(D _ (hm _ (aX9 hs))).2]
   rfl
  have tail:(ch xs (k+1)).flatMap (ext lt z (x::xs))=ch xs (k+2):=by
   rw[<- bZu j irr k];refine bXs λs hs=>?_;obtain⟨h1,h2⟩:=ch_mem hs;exact out s (by rintro rfl;simp at h1) λo G=>h2.subset G
  rw[aQi,gC,tail,aQi]
  congr 1
  cases k with
  |zero =>
   rw[aQo,dZp];simp only[aL,fJ,bq,jW,ce];unfold ext;have e:([x]).getLastD z=x:=rfl;rw[e,cb,irr x];simp only[aM,if_false];rw[eK.mpr λo G=>(D o G).1,bg]
   rfl
  |succ k =>
   rw[<- bZu j irr k,List.flatMap_map,List.map_flatMap];refine bXs λs hs=>?_;obtain⟨h1,h2⟩:=ch_mem hs;have B:s≠[]:=by rintro rfl;simp at h1
   unfold ext;rw[getLastD_cons' B,cb,(D _ (h2.subset (aX9 B))).2];simp only[aM,if_false,bg]
   rfl
theorem aZe{β:Type}{f:α->List β}:∀{l m:List α},l.Sublist m->(l.flatMap f).Sublist (m.flatMap f)
 |_,_,.slnil=>.slnil
 |_,_,.cons a h=>by rw[bq];exact(aZe h).trans (jq _ _)
 |_,_,.cons_cons a h=>by rw[bq,bq];exact(fj _).append (aZe h)
def flw(lt:α->α->Bool)(z:α)(ok:List α->Bool)(sets:List α):Nat->List (List α)
 |0=>ch sets 2
 |j+1=>((flw lt z ok sets j).flatMap (ext lt z sets)).filter ok
theorem dZq{lt:α->α->Bool}(hp:sets.Pairwise (λa b=>lt a b=true/\lt b a=false))(irr:∀a,lt a a=false):∀j,(flw lt z ok sets j).Sublist (ch sets (j+2))
 |0=>fj _
 |j+1=>by
  refine(cR ..).trans ?_;rw[<- bZu hp irr (j+1)];exact aZe (dZq hp irr j)
theorem aZu{β:Type}{f:α->List β}{q:β->Bool}:∀l:List α,(l.flatMap f).filter q=l.flatMap λa=>(f a).filter q
 |[]=>rfl
 |a::l=>by rw[bq,bq,dD,aZu l]
theorem bJv{lt:α->α->Bool}(hp:sets.Pairwise (λa b=>lt a b=true/\lt b a=false))(irr:∀a,lt a a=false)(h2:∀s∈ch sets 2,ok s=true)
  (pre:∀s o,2<=s.length->(s++[o]).Sublist sets->ok (s++[o])=true->ok s=true):∀j,flw lt z ok sets j=(ch sets (j+2)).filter ok
 |0=>(eK.mpr h2).symm
 |j+1=>by
  show((flw lt z ok sets j).flatMap (ext lt z sets)).filter ok=_;rw[bJv hp irr h2 pre j,<- bZu hp irr (j+1),aZu,aZu];have key:∀l:List (List α),(∀s∈l,s∈ch sets (j+2))->(l.filter ok).flatMap (λa=>(ext lt z sets a).filter ok)=l.flatMap λa=>(ext lt z sets a).filter ok:=λl=>by
   induction l with
   |nil=>intro _;rfl
   |cons s l G =>
    intro h;rw[cb,bq];cases hs:ok s with
    |true=>rw[if_pos rfl,bq,G λt B=>h t (ak _ B)]
    |false =>
     rw[if_neg (by simp),G λt B=>h t (ak _ B)]
     have:(ext lt z sets s).filter ok=[]:=by
      rw[dP];intro t B;unfold ext at B;rw[aR] at B;obtain⟨o,J,rfl⟩:=B;intro O;have D:s++[o]∈ch sets (j+3):=by
       rw[<- bZu hp irr (j+1),List.mem_flatMap];exact⟨s,h s ai,by unfold ext;rw[aR];exact⟨o,J,rfl⟩⟩
      have:=pre s o (by rw[(ch_mem (h s ai)).1];lia) (ch_mem D).2 O
      rw[hs] at this;cases this
     rw[this,bW]
  exact key _ λs hs=>hs
end Toy
namespace Toy
variable{β:Type}[DecidableEq β]
def Sun(s:List (List β)):Prop:=s.Pairwise λa b=>∀n,n∈a->n∈b->∀o∈s,n∈o
def naG(s:List (List β)):List β:=(s.headD []).filter λn=>s.all λo=>decide (n∈o)
def lfG(s:List (List β)):List β:=s.flatMap λo=>o.filter λd=>!decide (d∈naG s)
def coG(s:List (List β)):Option (List β):=if s.length<2\/¬ s.Nodup then none else if (lfG s).Nodup then some (naG s) else none
theorem aJx(hs:s≠[]){n:β}:n∈naG s↔∀o∈s,n∈o:=by
 unfold naG;rw[ao,bI];simp only[decide_eq_true_eq];refine⟨λh=>h.2,λh=>⟨?_,h⟩⟩;cases s with
 |nil=>exact absurd rfl hs
 |cons a s=>exact h a ai
theorem cX7{s:List (List β)}(hs:s≠[])(hn:∀o∈s,o.Nodup):(lfG s).Nodup↔Sun s:=by
 unfold lfG Sun List.Nodup;rw[List.pairwise_flatMap];refine⟨λh=>h.2.imp_of_mem ?_,λh=>⟨λo Y=>(hn o Y).filter _,h.imp_of_mem ?_⟩⟩
 ·intro a b ha hb j n na nb;refine aI λZ=>?_;have B:n∉naG s:=λz=>Z ((aJx hs).mp z);exact j n (ao.mpr ⟨na,by simp[B]⟩) n (ao.mpr ⟨nb,by simp[B]⟩) rfl
 ·intro a b ha hb j x U y O e;subst e;obtain⟨J,G⟩:=ao.mp U;obtain⟨D,_⟩:=ao.mp O
  have:x∉naG s:=by simpa using G
  exact this ((aJx hs).mpr (j x J D))
theorem aXw{s:List (List β)}(hn:∀o∈s,o.Nodup):(coG s).isSome=true↔2<=s.length/\s.Nodup/\Sun s:=by
 unfold coG
 by_cases h:s.length<2\/¬ s.Nodup
 ·rw[if_pos h];simp only[Option.isSome_none,aM,false_iff];rintro⟨h1,h2,_⟩;rcases h with h|h
  ·lia
  ·exact h h2
 ·rw[if_neg h];have h2:=λz=>h (.inl z);have nd:=Classical.not_not.mp λz=>h (.inr z);have hs:s≠[]:=by rintro rfl;simp at h2
  have hi:=cX7 hs hn
  by_cases hl:(lfG s).Nodup
  ·rw[if_pos hl];simp only[i8,true_iff];exact⟨by lia,nd,hi.mp hl⟩
  ·rw[if_neg hl];simp only[Option.isSome_none,aM,false_iff];rintro⟨_,_,j⟩;exact hl (hi.mpr j)
theorem bXt{o:List β}(h:Sun (s++[o])):Sun s:=(a9.mp h).1.imp λj n na nb p z=>j n na nb p (cZ _ z)
theorem sorted_eq(irr:∀a,¬ lt a a)(asy:∀a b,lt a b->¬ lt b a):∀{l m:List β},l.Pairwise lt->m.Pairwise lt->(∀n,n∈l↔n∈m)->l=m
 |[],[],_,_,_=>rfl
 |[],b::m,_,_,h=>by have:=(h b).mpr ai;simp at this
 |a::l,[],_,_,h=>by have:=(h a).mp ai;simp at this
 |a::l,b::m,hl,hm,h=>by
  obtain⟨la,D⟩:=aN.mp hl;obtain⟨mb,B⟩:=aN.mp hm;have e:a=b:=by
   rcases av.mp ((h a).mp ai) with z|z
   ·exact z
   ·rcases av.mp ((h b).mpr ai) with y|y
    ·exact y.symm
    ·exact absurd (mb a z) (asy _ _ (la b y))
  subst e
  congr 1
  refine sorted_eq irr asy D B λn=>⟨λj=>?_,λj=>?_⟩
  ·rcases av.mp ((h n).mp (ak _ j)) with z|z
   ·subst z;exact absurd (la n j) (irr n)
   ·exact z
  ·rcases av.mp ((h n).mpr (ak _ j)) with z|z
   ·subst z;exact absurd (mb n j) (irr n)
   ·exact z
def meG(a b:List β):List β:=a.filter λn=>decide (n∈b)
theorem mem_me{n:β}:n∈meG a b↔n∈a/\n∈b:=by unfold meG;rw[ao];simp
def laG(s:List (List β)):Option (List β):=match s with
 |a::b::_=>if s.Pairwise λother one=>meG one other=meG a b then some (meG a b) else none
 |_=>none
theorem dJy(irr:∀a,¬ lt a a)(asy:∀a b,lt a b->¬ lt b a){s:List (List β)}(h2:2<=s.length)(nd:s.Nodup)(hs:∀o∈s,o.Pairwise lt):laG s=coG s:=by
 classical
 have j:s≠[]:=by rintro rfl;simp at h2
 have hnd:=λo ho=>(hs o ho).imp (λ{x y} (h:lt x y) (e:x=y)=>irr y (e▸h));obtain⟨a,b,r,rfl⟩:∃a b r,s=a::b::r:=by
  match s,h2 with
  |a::b::r,_=>exact⟨a,b,r,rfl⟩
 have D:∀x∈a::b::r,∀y,(meG x y).Pairwise lt:=λx Y y=>(hs x Y).filter _;have hco:coG (a::b::r)=if Sun (a::b::r) then some (naG (a::b::r)) else none:=by
  unfold coG;have hno:¬ ((a::b::r).length<2\/¬ (a::b::r).Nodup):=λz=>z.elim (λz=>by simp only[az] at z;lia) λz=>z nd
  rw[if_neg hno]
  have:=cX7 j hnd
  by_cases h:Sun (a::b::r)
  ·rw[if_pos h,if_pos (this.mpr h)]
  ·rw[if_neg h,if_neg λz=>h (this.mp z)]
 rw[hco];show(if (a::b::r).Pairwise (λother one=>meG one other=meG a b) then some (meG a b) else none)=_
 have U:Sun (a::b::r)->meG a b=naG (a::b::r):=λh=>by
  refine sorted_eq irr asy (D a ai b) ((hs a ai).filter _) λn=>?_;rw[mem_me,aJx j];refine⟨λ⟨na,nb⟩=>(aN.mp h).1 b ai n na nb,λz=>⟨z a ai,z b (ak _ ai)⟩⟩
 have iff:(a::b::r).Pairwise (λother one=>meG one other=meG a b)↔Sun (a::b::r):=by
  constructor
  ·intro h;refine h.imp_of_mem λ{x y} Y hy B n nx Z o ho=>?_;have hn:=B▸mem_me.mpr ⟨Z,nx⟩;have all:∀u∈a::b::r,∀v∈a::b::r,u≠v->n∈u/\n∈v:=by
    have sym:∀{l:List (List β)},l.Pairwise (λother one=>meG one other=meG a b)->∀u∈l,∀v∈l,u≠v->n∈u/\n∈v:=by
     intro l hl
     induction hl with
     |nil=>intro u hu;cases hu
     |@cons p l hp _ ih =>
      intro u hu v hv j;rcases av.mp hu with eu|J <;> rcases av.mp hv with ev|G
      ·exact absurd (eu.trans ev.symm) j
      ·have:=mem_me.mp ((hp v G).symm▸hn);rw[eu];exact⟨this.2,this.1⟩
      ·have:=mem_me.mp ((hp u J).symm▸hn);rw[ev];exact this
      ·exact ih u J v G j
    exact sym h
   have nab:a≠b:=λe=>(bo.mp nd).1 (e▸ai)
   by_cases O:o=a
   ·rw[O];exact(mem_me.mp hn).1
   ·exact(all o ho a ai O).1
  ·intro h;refine h.imp_of_mem λ{x y} Y hy B=>?_;refine sorted_eq irr asy (D y hy x) (D a ai b) λn=>?_;rw[mem_me,U h,aJx j];exact⟨λ⟨Z,nx⟩=>B n nx Z,λz=>⟨z y hy,z x Y⟩⟩
 by_cases h:Sun (a::b::r)
 ·rw[if_pos h,if_pos (iff.mpr h),U h]
 ·rw[if_neg h,if_neg λz=>h (iff.mp z)]
end Toy
namespace Toy
variable{α β:Type}
theorem ch_map(f:α->β):∀(l:List α) (k:Nat),ch (l.map f) k=(ch l k).map λs=>s.map f
 |[],0=>rfl
 |[],k+1=>rfl
 |x::l,0=>by rw[aQo,aQo];rfl
 |x::l,k+1=>by
  rw[aL,aQi,aQi,ch_map f l k,ch_map f l (k+1),bK,bg,bg]
  rfl
theorem dZr(l:List α)(z:α):(a4 l.length).map (λi=>l.getD i z)=l:=by
 apply jV
 ·simp
 ·intro i h1 h2;simp only[List.getElem_map,jl,aj];rw[af h2]
  rfl
end Toy
set_option maxHeartbeats 1000000
namespace L2
open PySem
abbrev Srt(t:List Str):Prop:=t.Pairwise λa b=>HT.ltS a b=true
abbrev SrtT(ts:List (List Str)):Prop:=ts.Pairwise λa b=>HT.lexS a b=true
theorem Srt.ext(hl:Srt l)(hm:Srt m)(h:∀n,n∈l↔n∈m):l=m :=
 Toy.sorted_eq (λa=>by rw[HT.ltS_ir];simp) (λa b h=>by rw[HT.ltS_as h];simp) hl hm h
theorem SrtT.ext(hl:SrtT l)(hm:SrtT m)(h:∀n,n∈l↔n∈m):l=m :=
 Toy.sorted_eq (λa=>by rw[aZn];simp) (λa b h=>by rw[HT.lexS_as h];simp) hl hm h
theorem Srt.nodup(h:Srt t):t.Nodup:=h.imp λ{a b} h e=>by subst e;rw[HT.ltS_ir] at h;cases h
theorem SrtT.nodup(h:SrtT t):t.Nodup:=h.imp λ{a b} h e=>by subst e;rw[aZn] at h;cases h
theorem gQa(nd:t.Nodup)(h:t.Pairwise λx y=>leS x y=true):Srt t:=by
 induction t with
 |nil=>exact .nil
 |cons a t z =>
  rw[aN] at h;rw[bo] at nd;refine aN.mpr ⟨λb j=>?_,z nd.2 h.2⟩
  have:=h.1 b j
  unfold leS at this;rw[dg] at this;exact HT.ltS_tot this λe=>nd.1 (by rw[<- e];exact j)
theorem fQ8(nd:t.Nodup)(h:t.Pairwise λx y=>leT x y=true):SrtT t:=by
 induction t with
 |nil=>exact .nil
 |cons a t z =>
  rw[aN] at h;rw[bo] at nd;refine aN.mpr ⟨λb j=>?_,z nd.2 h.2⟩
  have:=h.1 b j
  unfold leT at this;rw[dg] at this;exact HT.lexS_tot this λe=>nd.1 (by rw[<- e];exact j)
theorem dZs(nd:l.Nodup):Srt (srS l):=gQa ((aXf l).nodup_iff.mpr nd) (eZa l)
theorem cQv(nd:l.Nodup):SrtT (srT l):=fQ8 ((aXg l).nodup_iff.mpr nd) (eZb l)
theorem mem_srS:x∈srS l↔x∈l:=(aXf l).mem_iff
theorem dZt:x∈srT l↔x∈l:=(aXg l).mem_iff
def dd{α:Type}[DecidableEq α]:List α->List α
 |[]=>[]
 |x::xs=>if x∈xs then dd xs else x::dd xs
theorem mem_dd{α:Type}[DecidableEq α]{x:α}:∀{l:List α},x∈dd l↔x∈l
 |[]=>Iff.rfl
 |y::l=>by
  unfold dd
  split
  ·next h =>
   rw[mem_dd,av];exact⟨.inr,λz=>z.elim (λe=>by rw[e];exact h) id⟩
  ·rw[av,av,mem_dd]
theorem bXu{α:Type}[DecidableEq α]:∀l:List α,(dd l).Nodup
 |[]=>eE
 |y::l=>by
  unfold dd
  split
  ·exact bXu l
  ·next h=>exact bo.mpr ⟨λz=>h (mem_dd.mp z),bXu l⟩
def nms(ts:List (List Str)):List Str:=srS (dd ts.flatten)
theorem dZu(ts:List (List Str)):Srt (nms ts):=dZs (bXu _)
theorem mem_nms:x∈nms ts↔∃t∈ts,x∈t:=by
 unfold nms;rw[mem_srS,mem_dd,fF]
theorem eZg(h:Srt out)(m:∀x,x∈out↔∃t∈ts,x∈t):out=nms ts:=h.ext (dZu ts) λn=>(m n).trans mem_nms.symm
def mts{α:Type}[DecidableEq α](one row:List α):Bool:=row.any λd=>decide (d∈one)
def has{α:Type}[DecidableEq α](one row:List α):Bool:=row.all λd=>decide (d∈one)
theorem mts_iff{α:Type}[DecidableEq α]{one row:List α}:mts one row=true↔∃x∈row,x∈one:=by unfold mts;simp
theorem has_iff{α:Type}[DecidableEq α]{one row:List α}:has one row=true↔∀x∈row,x∈one:=by unfold has;simp
def wo{α:Type}[DecidableEq α](one row:List α):List α:=one.filter λd=>!decide (d∈row)
theorem mem_wo{α:Type}[DecidableEq α]{one row:List α}{x:α}:x∈wo one row↔x∈one/\x∉row:=by unfold wo;rw[ao];simp
def lnk(ts:List (List Str))(row:List Str):List (List Str):=srT ((ts.filter λt=>has t row).map λt=>wo t row)
end L2
set_option maxHeartbeats 4000000
namespace L2
open PySem
structure Enc(α:Type) where
 e:α->D
 inj:∀{x y},e x=e y->x=y
 pl:∀x,plain (e x)=true
 dep:Nat
 ok:∀n x y,dep<=n->okE n (e x) (e y)=true
 lt:α->α->Bool
 okl:∀n x y,dep<=n->okL n (e x) (e y)=true
 lte:∀n x y,dep<=n->ltN n (e x) (e y)=lt x y
def lexG{α:Type}[DecidableEq α](lt:α->α->Bool):List α->List α->Bool
 |[],[]=>false
 |[],_::_=>true
 |_::_,[]=>false
 |x::xs,y::ys=>if x=y then lexG lt xs ys else lt x y
def strE:Enc Str where
 e:=D.str
 inj:=λh=>by injection h
 pl:=λ_=>rfl
 dep:=0
 ok:=λn x y _=>by cases n <;> rfl
 lt:=HT.ltS
 okl:=λn x y _=>by cases n <;> rfl
 lte:=λn x y _=>by cases n <;> rfl
def tupE{α:Type}[DecidableEq α](E:Enc α):Enc (List α) where
 e:=λl=>.tup (l.map E.e)
 inj:=λ{x y} h=>by
  injection h with h
  exact bQt (λa b e=>E.inj e) h
 pl:=λl=>by
  show aZ3 (l.map E.e)=true
  induction l with
  |nil=>rfl
  |cons x l ih=>show(plain (E.e x)&&aZ3 (l.map E.e))=true;rw[E.pl,ih];rfl
 dep:=E.dep+1
 ok:=λn x y h=>by
  obtain⟨m,rfl⟩:∃m,n=m+1:=⟨n-1,by lia⟩
  show((x.map E.e).zip (y.map E.e)).all (λp=>okE m p.1 p.2)=true;rw[List.zip_map,gv,bI];exact λp _=>E.ok m p.1 p.2 (by lia)
 lt:=lexG E.lt
 okl:=λn x y h=>by
  obtain⟨m,rfl⟩:∃m,n=m+1:=⟨n-1,by lia⟩
  show okLs (okL m) m (x.map E.e) (y.map E.e)=true
  induction x generalizing y with
  |nil=>cases y <;> rfl
  |cons a x ih =>
   cases y with
   |nil=>rfl
   |cons b y =>
    show(okE m (E.e a) (E.e b)&&(if E.e a=E.e b then okLs (okL m) m (x.map E.e) (y.map E.e) else okL m (E.e a) (E.e b)))=true
    rw[E.ok m a b (by lia),eQ]
    split
    ·exact ih y
    ·exact E.okl m a b (by lia)
 lte:=λn x y h=>by
  obtain⟨m,rfl⟩:∃m,n=m+1:=⟨n-1,by lia⟩
  show lexN (ltN m) (x.map E.e) (y.map E.e)=lexG E.lt x y
  induction x generalizing y with
  |nil=>cases y <;> rfl
  |cons a x ih =>
   cases y with
   |nil=>rfl
   |cons b y =>
    show(if E.e a=E.e b then lexN (ltN m) (x.map E.e) (y.map E.e) else ltN m (E.e a) (E.e b))=if a=b then lexG E.lt x y else E.lt a b
    by_cases hab:a=b
    ·subst hab;rw[if_pos rfl,if_pos rfl];exact ih y
    ·rw[if_neg λz=>hab (E.inj z),if_neg hab];exact E.lte m a b (by lia)
theorem gQb:lexG HT.ltS=HT.lexS:=by
 funext x y
 induction x generalizing y with
 |nil=>cases y <;> rfl
 |cons a x j =>
  cases y with
  |nil=>rfl
  |cons b y =>
   show(if a=b then lexG HT.ltS x y else HT.ltS a b)=if a=b then HT.lexS x y else HT.ltS a b
   rw[j]
abbrev setE:Enc (List Str):=tupE strE
abbrev flE:Enc (List (List Str)):=tupE setE
theorem fQ9:setE.lt=HT.lexS:=gQb
section
variable{α:Type}[DecidableEq α]{E:Enc α}
theorem cX8:∀l:List α,aZ3 (l.map E.e)=true
 |[]=>rfl
 |x::l=>by show(plain (E.e x)&&aZ3 (l.map E.e))=true;rw[E.pl,cX8 l];rfl
theorem fQa{l:List α}:E.e x∈l.map E.e↔x∈l:=by
 rw[aR];exact⟨λ⟨y,h,e⟩=>by rw[<- E.inj e];exact h,λh=>⟨x,h,rfl⟩⟩
theorem in_e{neg:Bool}{x:α}{l:List α}[dm:Decidable (x∈l)]{d:D}{S:Sto}{Q:DK}(hE:E.dep<=8)(hd:sqIs S d (l.map E.e))(q:Q (.bl (if neg then !decide (x∈l) else decide (x∈l))) S):inD neg (E.e x) d S Q:=by
 refine⟨l.map E.e,hd,cX8 l,by rw[gv,bI];exact λy _=>E.ok 8 y x hE,?_⟩
 rw[decide_eq_decide.mpr (fQa)];exact q
theorem in_t{neg:Bool}{x:α}{l:List α}[dm:Decidable (x∈l)]{d:D}{S:Sto}{Q:Bool->Sto->Prop}(hE:E.dep<=8)(hd:sqIs S d (l.map E.e))(q:Q (if neg then !decide (x∈l) else decide (x∈l)) S):inD neg (E.e x) d S (λd S1=>∃b,d=.bl b/\Q b S1):=in_e hE hd ⟨_,rfl,q⟩
end
def fzIs(d:D)(xs:List D):Prop:=d=.tup xs\/d=.lst xs
theorem fzIs.sq(h:fzIs d xs):sqIs S d xs:=by rcases h with rfl|rfl <;> rfl
end L2
namespace Toy
open PySem L2
def opD:Option (List Str)->D
 |none=>.non
 |some t=>tupS t
def aJ7:SpD:=λds S Q=>∃(α:Type) (_:DecidableEq α) (E:Enc α) (one row:List α) (d1 d2:D),ds=[d1,d2]/\E.dep<=4/\fzIs d1 (one.map E.e)/\fzIs d2 (row.map E.e)/\row.length<=9999/\Q (.bl (mts one row)) S
def aJq:SpD:=λds S Q=>∃(α:Type) (_:DecidableEq α) (E:Enc α) (one row:List α) (d1 d2:D),ds=[d1,d2]/\E.dep<=4/\fzIs d1 (one.map E.e)/\fzIs d2 (row.map E.e)/\row.length<=9999/\Q (.bl (has one row)) S
def aQl:SpD:=λds S Q=>∃(α:Type) (_:DecidableEq α) (E:Enc α) (one row:List α) (d1 d2:D),ds=[d1,d2]/\E.dep<=4/\fzIs d1 (one.map E.e)/\fzIs d2 (row.map E.e)/\one.length<=9999/\Q (.tup ((wo one row).map E.e)) S
def aJr:SpD:=λds S Q=>∃one row:List Str,ds=[tupS one,tupS row]/\one.length<=9999/\Q (tupS (one.filter λd=>decide (d∈row))) S
def bQu:SpD:=λds S Q=>∃(ts:List (List Str)),ds=[.tup (ts.map tupS)]/\ts.length<=20/\(∀t∈ts,t.length<=12)/\(nms ts).length<64/\Q (tupS (nms ts)) S
end Toy
namespace L2
open PySem
theorem Srt.filter(h:Srt l)(p:Str->Bool):Srt (l.filter p):=cw p h
theorem dZv{xs:List α}(h:xs≠[])(z:α):atI xs (-1)=some (xs.getLastD z):=by
 rw[gZt xs h];cases xs with
 |nil=>exact absurd rfl h
 |cons x xs=>rw[jn,List.getLast_eq_getLastD]
theorem okT(t:List Str)(ts:List (List Str)):((ts.map tupS).all λy=>okE 8 y (tupS t))=true:=by rw[gv,bI];exact λx _=>dJx x t
end L2
namespace Toy
open PySem L2
end Toy
namespace L2
open PySem
end L2
set_option maxHeartbeats 1000000
namespace Toy
open PySem L2
def bZv:SpD:=λds S Q=>∃(ns:List Int) (k:Int),ds=[.lst (ns.map D.int),.int k]/\ns.length<=63/\0<=k/\k<=9999/\∀r:Int,0<=r->r<1000000->Q (.int r) S
abbrev s_law_number:Stmt:=top 29
theorem sc_law_number:FnScope ["script", "k", "cells", "size", "cell", "turn", "rest", "step", "seed"] ["script", "k"] (aQ3 s_law_number):=fsc
section
variable{P:ax}{w:aK}{K:ar}{mg:Str->Option ab}{base:bb}{pt cc:Addr}
theorem bXv(T:Tx K mg "_law_number" s_law_number)(B:Bs mg):Df P w K mg base 1 "_law_number" ["script", "k"] (spU K bZv):=by
 refine aZ9 T sc_law_number (λF=>F.binds λ_ _ _ _ _ _=>us2 λ_ _=>rfl) ?_ λf cdv A outer s H E J=>⟨_,(aQ2 (aQd (i:=2) sc_law_number.nd rfl (a8 rfl) (aZk (k:=false) (fJi (b:=false) rfl B.list (aQ0 (dv 0) aQ1)) (bJo (b:=false) (aQ0 aQ8 aQ1))))
  (bQr (aQd (i:=3) sc_law_number.nd rfl (a8 rfl) (gX3 rfl B.max (aQ0 aQ8 (aQ0 (bQ0 rfl B.len (aQ0 (dv 0) aQ1)) aQ1))))
  (aQ2 (aQd (i:=4) sc_law_number.nd rfl (a8 rfl) (e_ix (dv 2) (bZa (dv 1) (dv 3))))
  (aQ2 (aQd (i:=5) sc_law_number.nd rfl (a8 rfl) (bJn (dv 1) (dv 3)))
  (aQ2 (aQd (i:=6) sc_law_number.nd rfl (a8 rfl) (dv 4))
  (aQ2 (aXj du rfl (bQm rfl B.range (aQ0 (gX2 rfl B.min (aQ0 (dv 5) (aQ0 aQ8 aQ1))) aQ1)) (aQv (i:=7) sc_law_number.nd rfl (a8 rfl)) (aQ4 (aQd (i:=6) sc_law_number.nd rfl (a8 rfl) (bJn (dv 6) aQ8))))
  (bQr (aZy (PWD.pt (bQl (eJh J (dv 4) (gZx aQ8 aQ8)) (bQl (bXf J (dv 5) aQ8) (aJl (eJg J (dv 6) aQ8))))) (aQ4 (aQb (bZa (dv 6) aQ8))) aQq)
  (aQ2 (aQd (i:=8) sc_law_number.nd rfl (a8 rfl) (bZa (bXc (aZk (k:=false) (aZk (k:=false) (aZk (k:=false) (bZa (dv 4) aQ8) aQ8) (bXc aQ8 (dv 5))) (bXc aQ8 (dv 1))) aQ8) aQ8))
  (aQ2 (aQd (i:=8) sc_law_number.nd rfl (a8 rfl) (bZa (aZk (k:=false) (aZk (k:=false) (bXc (dv 8) (dv 8)) (bXc aQ8 (dv 5))) (bXc aQ8 (dv 1))) aQ8))
  (aQ4 (aQb (bZa (bJn (bZa (bXc (dv 8) aQ8) aQ8) aQ8) aQ8)))))))))))),?_⟩
 ·rintro ds S Q ⟨ns,k,rfl,_⟩;rfl
 ·rintro ds S Q ⟨ns,k,rfl,h63,k0,k1,q⟩;refine⟨_,rfl,z9999 (by decide),_,_,rfl,rfl,z9999 (by rw[ah];show ns.length+1<=9999;lia),?_⟩
  refine⟨fun Γ' S'=>S'=S/\∃sz:Int,Γ'=[some (.lst (ns.map D.int)),some (.int k),some (.lst (ns.map D.int++[D.int 0])),some (.int sz),none,none,none,none,none]/\1<=sz/\sz<=63/\sz<=ns.length+1,⟨_,rfl,rfl,_,rfl,?_⟩,?_⟩
  ·show 1<=(if ((ns.map D.int).length:Int)>1 then ((ns.map D.int).length:Int) else 1)/\(if ((ns.map D.int).length:Int)>1 then ((ns.map D.int).length:Int) else 1)<=63/\(if ((ns.map D.int).length:Int)>1 then ((ns.map D.int).length:Int) else 1)<=ns.length+1
   rw[ah]
   split
   ·exact⟨by lia,by lia,by lia⟩
   ·exact⟨by lia,by lia,by lia⟩
  rintro Γ' S0 ⟨rfl,sz,rfl,sz1,Z,Y⟩;have hb:=md (a:=k) (b:=sz) (by lia)
  have e0:ns.map D.int++[D.int 0]=(ns++[0]).map D.int:=by rw[bK];rfl
  obtain⟨hi,O⟩:=gQ1 (xs:=ns++[0]) hb.1 (by rw[au];show _<((ns.length+1):Int);lia)
  have z:atI (ns.map D.int++[D.int 0]) (k%sz)=some (.int ((ns++[0])[(k%sz).toNat])):=by rw[e0,cQt,O];rfl
  generalize (ns++[0])[(k%sz).toNat]=cell at z;refine⟨by lia,_,_,rfl,z,⟨by lia,by lia⟩,?_⟩
  have ht:0<=k/sz:=Int.ediv_nonneg k0 (by lia)
  obtain⟨m,hm,m0,m60⟩:∃m:Int,(λi j:Int=>if j<i then j else i) (k/sz) 60=m/\0<=m/\m<=60:=by
   show ∃m:Int,(if 60<(k/sz) then 60 else (k/sz))=m/\_
   split
   ·exact⟨60,rfl,by decide,by decide⟩
   ·exact⟨(k/sz),rfl,ht,by lia⟩
  refine⟨?_,?_⟩
  ·rw[hm];exact⟨by lia,by lia⟩
  rw[hm];refine aZt (λi Γ S'=>∃(rest:Int) (G:Option D),Γ=[some (.lst (ns.map D.int)),some (.int k),some (.lst (ns.map D.int++[D.int 0])),some (.int sz),some (.int cell),some (.int (k/sz)),some (.int rest),G,none]/\S'=S0) ⟨cell,none,rfl,rfl⟩ ?_ ?_
  ·rintro i x Γ S' N hx ⟨rest,G,rfl,rfl⟩ hN;exact⟨trivial,⟨by decide,by decide⟩,hN _ _ ⟨_,_,rfl,rfl⟩⟩
  rintro Γ S' ⟨rest,G,rfl,rfl⟩;refine⟨trivial,fun Γ' U=>Γ'=[some (.lst (ns.map D.int)),some (.int k),some (.lst (ns.map D.int++[D.int 0])),some (.int sz),some (.int cell),some (.int (k/sz)),some (.int rest),G,none]/\U=S',?_,?_⟩
  ·refine⟨⟨by decide,by decide,by decide⟩,_,rfl,ite2 (λ_=>⟨_,rfl,ite2 (λ_=>⟨_,rfl,ite2 (λ_=>?_) λ_=>⟨rfl,rfl⟩⟩) λ_=>⟨rfl,rfl⟩⟩) λ_=>⟨rfl,rfl⟩⟩
   exact⟨by show(0:Int)<1000000;decide,aQ7 (q _ (md (by decide)).1 (md (by decide)).2)⟩
  rintro Γ' U ⟨rfl,rfl⟩;refine⟨by show(0:Int)<2147483629;decide,.inl ⟨by decide,by decide⟩,.inl ⟨by decide,by decide⟩,.inr ⟨by decide,by decide⟩,by show(0:Int)<2147483647;decide,?_⟩
  have h2:=md (a:=(cell%2147483629+977+104729*(k/sz)+15485863*k)*48271) (b:=2147483647) (by decide)
  refine⟨.inl ⟨by lia,by lia⟩,.inl ⟨by decide,by decide⟩,.inl ⟨by decide,by decide⟩,by show(0:Int)<2147483587;decide,.inr ⟨by decide,by decide⟩,by show(0:Int)<2147483563;decide,⟨by decide,by decide⟩,by show(0:Int)<1000000;decide,aQ7 (q _ (md (by decide)).1 (md (by decide)).2)⟩
end
end Toy
namespace L2
open PySem
open Toy (ch aQo aQi ch_mem aZp)
section
variable{α:Type}[DecidableEq α]
def aZf(bs:List (List α))(r:List α):Prop:=∀b∈bs,¬ ∀x∈b,x∈r
def frB(bs:List (List α))(r:List α):Bool:=bs.all λb=>!(b.all λx=>decide (x∈r))
theorem frB_iff{r:List α}:frB bs r=true↔aZf bs r:=by
 unfold frB aZf;rw[bI];exact forall_congr' λb=>forall_congr' λ_=>by simp
theorem bQv(p:α->Bool):∀(ts:List α) (m:Nat),(ch ts m).filter (λr=>r.all p)=ch (ts.filter p) m
 |ts,0=>by rw[aQo,aQo];rfl
 |[],m+1=>rfl
 |x::ts,m+1=>by
  rw[aQi,dD,bQv p ts (m+1),gQ,cb];cases hx:p x with
  |true =>
   rw[if_pos rfl,aQi,<- bQv p ts m]
   congr 2
   refine f6 λr _=>?_;show(p x&&r.all p)=_;rw[hx,eQ]
  |false =>
   rw[if_neg (by simp)]
   have:(ch ts m).filter ((λr=>r.all p)∘λr=>x::r)=[]:=dP.mpr λr _=>by
    show ¬ (p x&&r.all p)=true;rw[hx];simp
   rw[this];rfl
theorem cX9:∀ts:List α,ch ts ts.length=[ts]
 |[]=>rfl
 |x::ts=>by
  rw[az,aQi,cX9 ts,Toy.ch_big ts (ts.length+1) (Nat.lt_succ_self _)]
  rfl
structure MfS(ts:List α)(bs:List (List α))(over:Int)(r:List α):Prop where
 sub:r.Sublist ts
 free:aZf bs r
 more:over<r.length
 most:∀r',r'.Sublist ts->aZf bs r'->r'.length<=r.length
 fst:((ch ts r.length).filter (frB bs)).head?=some r
def MfN(ts:List α)(bs:List (List α))(over:Int):Prop:=∀r',r'.Sublist ts->aZf bs r'->(r'.length:Int)<=over
def MF(ts:List α)(bs:List (List α))(over:Int):Option (List α)->Prop
 |none=>MfN ts bs over
 |some r=>MfS ts bs over r
theorem gQc{bs:List (List α)}{over:Int}(h:ts.length<=over):MF ts bs over none:=λz j _=>by
 have:=j.length_le
 lia
theorem gQd{ts:List α}{over:Int}(h:¬ ts.length<=over):MF ts [] over (some ts):=⟨fj _,λb z=>absurd z (by simp),by lia,λB j _=>j.length_le,by rw[cX9];rfl⟩
def shrt(bs:List (List α))(x:α):List (List α):=bs.map λb=>wo b [x]
def shut(bs:List (List α))(x:α):List α:=(shrt bs x).filterMap λs=>if s.length=1 then s.head? else none
def brd(bs:List (List α))(x:α):List (List α):=(shrt bs x).filter λs=>!mts s (shut bs x)
theorem mem_w1'{x y:α}:y∈wo b [x]↔y∈b/\y≠x:=by rw[mem_wo];simp
theorem free_cons{x:α}{r:List α}:aZf bs (x::r)↔aZf (shrt bs x) r\/False:=by
 simp only[or_false];constructor
 ·intro h s hs j;obtain⟨b,B,rfl⟩:=aR.mp hs;refine h b B λy z=>?_
  by_cases e:y=x
  ·rw[e];exact ai
  ·exact ak _ (j y (mem_w1'.mpr ⟨z,e⟩))
 ·intro h b B j;refine h (wo b [x]) (aR.mpr ⟨b,B,rfl⟩) λy z=>?_;obtain⟨h1,h2⟩:=mem_w1'.mp z;exact(av.mp (j y h1)).resolve_left h2
theorem mem_shut{x y:α}:y∈shut bs x↔[y]∈shrt bs x:=by
 unfold shut;rw[eT];constructor
 ·rintro⟨s,hs,h⟩
  split at h
  ·next hl =>
   match s,hl with
   |[z],_=>cases h;exact hs
  ·cases h
 ·intro h;exact⟨[y],h,by simp⟩
theorem free_brd{x:α}{r:List α}:aZf (shrt bs x) r↔(∀y∈r,y∉shut bs x)/\aZf (brd bs x) r:=by
 constructor
 ·intro h;refine⟨λy D hs=>h [y] (mem_shut.mp hs) λz G=>by rw[aJ.mp G];exact D,λs hs=>h s (ao.mp hs).1⟩
 ·rintro⟨h1,h2⟩ s hs j
  by_cases hm:mts s (shut bs x)=true
  ·obtain⟨y,D,B⟩:=mts_iff.mp hm;exact h1 y (j y B) D
  ·exact h2 s (ao.mpr ⟨hs,by simpa using hm⟩) j
theorem fQb{x:α}{ts:List α}{bs:List (List α)}{over:Int}{m:Option (List α)}(h:MF (wo ts (shut bs x)) (brd bs x) (over-1) m) :
  match m with
  |none=>∀r,r.Sublist ts->aZf bs (x::r)->r.length+1<=over
  |some r0=>r0.Sublist ts/\aZf bs (x::r0)/\over<r0.length+1/\(∀r,r.Sublist ts->aZf bs (x::r)->r.length<=r0.length)/\((ch ts r0.length).filter λr=>frB bs (x::r)).head?=some r0:=by
 have same:∀m,((ch ts m).filter λr=>frB bs (x::r))=(ch (wo ts (shut bs x)) m).filter (frB (brd bs x)):=λm=>by
  have e:wo ts (shut bs x)=ts.filter λd=>!decide (d∈shut bs x):=rfl;rw[e,<- bQv,List.filter_filter];refine f6 λr _=>?_;rw[dX,aV,frB_iff,frB_iff,bI];constructor
  ·intro h;have h1:=free_brd.mp ((free_cons.mp h).resolve_right id);exact⟨h1.2,λy j=>by simpa using h1.1 y j⟩
  ·rintro⟨h1,h2⟩;exact free_cons.mpr (.inl (free_brd.mpr ⟨λy j=>by simpa using h2 y j,h1⟩))
 have down:∀{r:List α},r.Sublist ts->aZf bs (x::r)->r.Sublist (wo ts (shut bs x))/\aZf (brd bs x) r:=λ{r} z hf=>by
  have h1:=free_brd.mp ((free_cons.mp hf).resolve_right id);refine⟨?_,h1.2⟩;have h2:=List.Sublist.filter (λd=>!decide (d∈shut bs x)) z;rwa [eK.mpr λy j=>by simpa using h1.1 y j] at h2
 cases m with
 |none =>
  intro r z hf;obtain⟨h1,h2⟩:=down z hf
  have:=h r h1 h2
  lia
 |some r0 =>
  have h':=h;refine⟨h'.sub.trans cR,free_cons.mpr (.inl (free_brd.mpr ⟨λy j=>(mem_wo.mp (h'.sub.subset j)).2,h'.free⟩)),by have:=h'.more;lia,λr z hf=>?_,by rw[same];exact h'.fst⟩
  obtain⟨h1,h2⟩:=down z hf;exact h'.most r h1 h2
theorem aX0{x:α}{r:List α}(hx:x∉r):aZf bs r↔aZf (bs.filter λb=>!decide (x∈b)) r:=by
 constructor
 ·exact λh b z=>h b (ao.mp z).1
 ·intro h b z j
  by_cases e:x∈b
  ·exact hx (j x e)
  ·exact h b (ao.mpr ⟨z,by simpa using e⟩) j
def ovr(over:Int):Option (List α)->Int
 |none=>over
 |some r=>(r.length:Int)+1
theorem fQc{x:α}{ts:List α}{bs:List (List α)}{over:Int}{m o:Option (List α)}(nd:(x::ts).Nodup)(hm:MF (wo ts (shut bs x)) (brd bs x) (over-1) m)
  (ho:MF ts (bs.filter λb=>!decide (x∈b)) (ovr over m) o) :
  MF (x::ts) bs over (match o with|some r=>some r|none=>m.map (x::·)):=by
 have G:=(bo.mp nd).1;have w:=fQb hm;have part:∀{r:List α},r.Sublist (x::ts)->(∃j,r=x::j/\j.Sublist ts)\/(r.Sublist ts/\x∉r):=λ{r} h=>by
  rcases List.sublist_cons_iff.mp h with h1|⟨j,rfl,h1⟩
  ·exact .inr ⟨h1,λz=>G (h1.subset z)⟩
  ·exact .inl ⟨j,rfl,h1⟩
 have later:∀{U:Int}{r1:List α},MfS ts (bs.filter λb=>!decide (x∈b)) U r1->(∀j,j.Sublist ts->aZf bs (x::j)->j.length+1≠r1.length)->((ch (x::ts) r1.length).filter (frB bs)).head?=some r1:=λ{U r1} h' O=>by
  have f:=h'.fst;have e:(ch ts r1.length).filter (frB (bs.filter λb=>!decide (x∈b)))=(ch ts r1.length).filter (frB bs):=f6 λr B=>by
   rw[dX,frB_iff,frB_iff];exact(aX0 λz=>G ((ch_mem B).2.subset z)).symm
  rw[e] at f;cases hn:r1.length with
  |zero=>rw[hn,aQo] at f;rw[aQo];exact f
  |succ n =>
   rw[hn] at f;rw[aQi,dD]
   have:((ch ts n).map (x::·)).filter (frB bs)=[]:=dP.mpr λr B=>by
    obtain⟨j,h0,rfl⟩:=aR.mp B;intro z;obtain⟨l0,s0⟩:=ch_mem h0;exact O j s0 (frB_iff.mp z) (by lia)
   rw[this];exact f
 cases m with
 |none =>
  cases o with
  |none =>
   intro r B hf;rcases part B with⟨j,rfl,h1⟩|⟨h1,h2⟩
   ·have:=w j h1 hf
    rw[az];lia
   ·exact ho r h1 ((aX0 h2).mp hf)
  |some r1 =>
   have h':MfS ts (bs.filter λb=>!decide (x∈b)) over r1:=ho;refine⟨h'.sub.cons _,(aX0 λz=>G (h'.sub.subset z)).mpr h'.free,h'.more,λr B hf=>?_,later h' λj h1 hf e=>by
    have:=w j h1 hf
    have:=h'.more
    lia⟩
   rcases part B with⟨j,rfl,h1⟩|⟨h1,h2⟩
   ·have:=w j h1 hf
    have:=h'.more
    rw[az];lia
   ·exact h'.most r h1 ((aX0 h2).mp hf)
 |some j =>
  obtain⟨w1,Z,w3,J,Y⟩:=w;cases o with
  |none =>
   refine⟨w1.cons₂ x,Z,by rw[az];lia,λr B hf=>?_,?_⟩
   rotate_left
   ·rw[az,aQi,dD,gQ];have e:((ch ts j.length).filter (frB bs∘λr=>x::r))=(ch ts j.length).filter λr=>frB bs (x::r):=rfl;rw[e,List.head?_append,List.head?_map,Y]
    rfl
   rcases part B with⟨D,rfl,h1⟩|⟨h1,h2⟩
   ·have:=J D h1 hf
    rw[az,az];lia
   ·have h3:(r.length:Int)<=j.length+1:=ho r h1 ((aX0 h2).mp hf);rw[az];lia
  |some r1 =>
   have h':MfS ts (bs.filter λb=>!decide (x∈b)) (j.length + 1) r1:=ho;have hm1:=h'.more;refine⟨h'.sub.cons _,(aX0 λz=>G (h'.sub.subset z)).mpr h'.free,by lia,λr B hf=>?_,later h' λD h1 hf e=>by
    have:=J D h1 hf
    lia⟩
   rcases part B with⟨D,rfl,h1⟩|⟨h1,h2⟩
   ·have:=J D h1 hf
    rw[az];lia
   ·exact h'.most r h1 ((aX0 h2).mp hf)
def Bar(ts:List α)(bs:List (List α)):Prop:=∀b∈bs,b.Nodup/\2<=b.length/\∀x∈b,x∈ts
theorem Bar.off{ts:List α}{bs:List (List α)}(h:Bar (x::ts) bs):Bar ts (bs.filter λb=>!decide (x∈b)):=λb z=>by
 obtain⟨h1,h2⟩:=ao.mp z;have h2:x∉b:=by simpa using h2
 obtain⟨a,l,m⟩:=h b h1;exact⟨a,l,λy j=>(av.mp (m y j)).resolve_left λe=>h2 (e▸j)⟩
theorem fQd(nd:b.Nodup)(x:α):b.length<=(wo b [x]).length+1:=by
 have:=nd.length_le_of_subset (l₂:=x::wo b [x]) λy j=>by
  by_cases e:y=x
  ·rw[e];exact ai
  ·exact ak _ (mem_w1'.mpr ⟨j,e⟩)
 simpa using this
theorem Bar.with{ts:List α}{bs:List (List α)}(h:Bar (x::ts) bs):Bar (wo ts (shut bs x)) (brd bs x):=λs hs=>by
 obtain⟨h1,h2⟩:=ao.mp hs;have h2:mts s (shut bs x)=false:=by simpa using h2
 obtain⟨b,D,rfl⟩:=aR.mp h1;obtain⟨a,l,m⟩:=h b D;have G:=fQd a x;have no:∀y∈wo b [x],y∉shut bs x:=λy j z=>by
  rw[mts_iff.mpr ⟨y,z,j⟩] at h2;cases h2
 refine⟨a.sublist cR,aI λz=>?_,λy j=>mem_wo.mpr ⟨(av.mp (m y (mem_w1'.mp j).1)).resolve_left (mem_w1'.mp j).2,no y j⟩⟩;have B:(wo b [x]).length=1:=by lia
 match e:wo b [x],B with
 |[y],_=>exact no y (by rw[e];exact ai) (mem_shut.mpr (e▸h1))
end
end L2
set_option maxHeartbeats 4000000
namespace L2
open PySem
theorem cXa(xs:List D)(i:Nat):cutD xs (some (i+1)) none=xs.drop (i+1):=by
 rcases Nat.lt_or_ge i xs.length with h|h
 ·have e:cutD xs (some (i+1)) none=cutD (xs.map id) (some (((i+1:Nat)))) none:=by rw[kI];rfl
  rw[e,cZv,HT.sIx_none,HT.sIx_nat,Nat.min_eq_left (by lia),bQ (by rw[bR];exact Nat.le_refl _),kI]
 ·have e:cutD xs (some (i+1)) none=cutD (xs.map id) (some (((i+1:Nat)))) none:=by rw[kI];rfl
  rw[e,cZv,HT.sIx_none,HT.sIx_nat,bE (by lia),bE (by lia),List.take_nil]
  rfl
end L2
namespace Toy
open PySem L2
def dJz(n:Nat):SpD:=λds S Q=>∃(xs:List D) (m:Nat),ds=[.tup xs,.int m]/\m<n/\xs.length<=20/\Q (.lst ((ch xs m).map D.tup)) S
def aXa:SpD:=λds S Q=>∃ts:List (List Str),ds=[.tup (ts.map tupS)]/\ts≠[]/\ts.length<=99/\(∀t∈ts,t.length<=99)/\Q (tupS (naG ts)) S
def bZw:SpD:=λds S Q=>∃ts:List (List Str),ds=[.tup (ts.map tupS)]/\ts.length<=99/\(∀t∈ts,t.length<=99)/\(lfG ts).length<=99/\Q (opD (coG ts)) S
end Toy
namespace L2
open PySem
open Toy (ch aQi aQo ch_mem aZp coG naG lfG meG laG Sun aXw bXt dJy flw bJv aJx mem_me)
theorem dZw{α:Type}[DecidableEq α]{lt:α->α->Bool}(irr:∀a,lt a a=false):∀{N:List α}(k:Nat),N.Pairwise (λa b=>lt a b=true)->(ch N k).Pairwise λa b=>lexG lt a b=true
 |N,0,_=>by rw[aQo];exact bj _ _
 |[],k+1,_=>ff
 |a::N,k+1,G=>by
  have j:=aN.mp G;rw[aQi];refine a9.mpr ⟨?_,dZw irr (k+1) j.2,?_⟩
  ·rw[cV];refine(dZw irr k j.2).imp λ{x y} h=>?_;show(if a=a then lexG lt x y else lt a a)=true
   rw[if_pos rfl];exact h
  ·intro x B y z;obtain⟨r,J,rfl⟩:=aR.mp B;obtain⟨h1,h2⟩:=ch_mem z;cases y with
   |nil=>simp at h1
   |cons b y =>
    have D:=h2.subset ai;have hab:=j.1 b D;show(if a=b then lexG lt r y else lt a b)=true
    rw[if_neg (by rintro rfl;rw[irr] at hab;cases hab)]
    exact hab
def flO(ts:List (List Str))(m:Nat):List (List (List Str)):=(ch ts m).filter λs=>(coG s).isSome
theorem cQw(h:SrtT ts):ts.Pairwise λa b=>HT.lexS a b=true/\HT.lexS b a=false:=h.imp λh=>⟨h,HT.lexS_as h⟩
theorem dZx(hs:SrtT ts)(he:∀t∈ts,Srt t)(j:Nat):flw HT.lexS [] (λs=>(coG s).isSome) ts j=flO ts (j+2):=by
 refine bJv (cQw hs) aZn (λs h=>?_) (λs o h2 sub ok=>?_) j
 ·obtain⟨h1,h2⟩:=ch_mem h;refine(aXw λo z=>(he o (h2.subset z)).nodup).mpr ⟨by lia,hs.nodup.sublist h2,?_⟩
  match s,h1 with
  |[a,b],_ =>
   refine aN.mpr ⟨λy B n na nb o z=>?_,bj _ _⟩;rw[aJ.mp B] at nb;rcases av.mp z with rfl|z
   ·exact na
   ·rw[aJ.mp z];exact nb
 ·have nd:=λo' z=>(he o' (sub.subset z)).nodup;obtain⟨_,G,D⟩:=(aXw nd).mp ok;exact(aXw λo' z=>nd o' (cZ _ z)).mpr ⟨h2,(fh.mp G).1,bXt D⟩
theorem mem_flO:s∈flO ts m↔s.length=m/\s.Sublist ts/\(coG s).isSome=true:=by
 unfold flO;rw[ao];constructor
 ·rintro⟨h1,h2⟩;exact⟨(ch_mem h1).1,(ch_mem h1).2,h2⟩
 ·rintro⟨rfl,h2,j⟩;exact⟨aZp h2,j⟩
theorem gQe{ts:List (List Str)}(hl:ts.length<=a)(he:∀t∈ts,t.length<=b):(lfG ts).length<=a*b:=by
 have gen:∀l:List (List Str),(∀t∈l,t.length<=b)->(l.flatMap λo=>o.filter λd=>!decide (d∈naG ts)).length<=l.length*b:=by
  intro l
  induction l with
  |nil=>intro _;simp
  |cons t l j =>
   intro h;rw[bq,au,az,Nat.succ_mul];have h1:=bB (λd=>!decide (d∈naG ts)) t;have h2:=h t ai;have B:=j λt z=>h t (ak _ z);lia
 exact Nat.le_trans (gen ts he) (Nat.mul_le_mul_right b hl)
end L2
namespace Toy
open PySem L2
def aJ8:SpD:=λds S Q=>∃(ts:List (List Str)) (m:Nat),ds=[.tup (ts.map tupS),.int m]/\2<=m/\m<=6/\SrtT ts/\ts.length<=15/\(∀t∈ts,Srt t/\t.length<=12)/\Q (.lst ((flO ts m).map flE.e)) S
end Toy
namespace L2
open PySem Toy
theorem fQe(hs:SrtT ts)(m:Nat)(h2:2<=m):Bar ts (flO ts m):=λb B=>by
 obtain⟨h1,j⟩:=ch_mem (ao.mp B).1;exact⟨hs.nodup.sublist j,by lia,λx z=>j.subset z⟩
theorem bXw:∀(l:List (List Str)) (m:Nat),(ch l m).length+(ch l (m+1)).length<=2^l.length
 |[],0=>by decide
 |[],m+1=>by simp[ch]
 |x::l,0=>by
  have e:(x::l).length=l.length+1:=rfl;rw[aQo,aQi,aQo,au,ah,e,Nat.pow_succ]
  have:=bXw l 0
  rw[aQo] at this;have h2:1<=2^l.length:=Nat.one_le_two_pow;simp only[az,cg] at *
  lia
 |x::l,m+1=>by
  rw[aQi,aQi,au,au,ah,ah,az,Nat.pow_succ]
  have:=bXw l m
  have:=bXw l (m+1)
  lia
theorem dZy(ts:List (List Str))(m:Nat):(ch ts m).length<=2^(ts.length-1):=by
 cases ts with
 |nil=>exact bZt [] m
 |cons x l =>
  cases m with
  |zero=>rw[aQo];exact Nat.one_le_two_pow
  |succ m =>
   rw[aQi,au,ah];exact bXw l m
theorem fQf(ts:List (List Str))(m:Nat)(h:1<=m):aZf (flO ts m) []:=λb j z=>by
 obtain⟨h1,_⟩:=ch_mem (ao.mp j).1;cases b with
 |nil=>simp at h1;lia
 |cons x b=>exact absurd (z x ai) (by simp)
end L2
set_option maxHeartbeats 1000000
namespace L2
open PySem Toy
def hav(ts:List (List Str))(core:List Str):List (List Str):=ts.filter λt=>has t core
def mt2(p:List (List Str)):List Str:=(p.getD 0 []).filter λx=>decide (x∈p.getD 1 [])
def mtg(hs:List (List Str))(core:List Str):List (List (List Str)):=(ch hs 2).filter λp=>!decide (mt2 p=core)
theorem aZq{hs:List (List Str)}(h:p∈ch hs 2):∃a b,p=[a,b]/\[a,b].Sublist hs:=by
 obtain⟨h1,h2⟩:=ch_mem h
 match p,h1 with
 |[a,b],_=>exact⟨a,b,rfl,h2⟩
theorem aJ9(ha:Srt a)(hb:Srt b):(a.filter λx=>decide (x∈b))=b.filter λx=>decide (x∈a) :=
 Srt.ext (cw _ ha) (cw _ hb) λn=>by simp[and_comm]
theorem cXb(hs':∀t∈hs,Srt t)(nd:hs.Nodup)(hr:r.Sublist hs):aZf (mtg hs core) r↔r.Pairwise λa b=>(a.filter λx=>decide (x∈b))=core:=by
 constructor
 ·intro h;rw[List.pairwise_iff_forall_sublist];intro a b B;refine aI λz=>?_;refine h [a,b] (ao.mpr ⟨aZp (B.trans hr),?_⟩) λx hx=>B.subset hx
  have:mt2 [a,b]≠core:=z
  simp[this]
 ·intro h p hp D;obtain⟨h1,h2⟩:=ao.mp hp;obtain⟨a,b,rfl,B⟩:=aZq h1;have G:a≠b:=by
   have:=nd.sublist B
   simp at this;exact this
  have ha:=D a (by simp)
  have Z:=D b (by simp)
  have key:(a.filter λx=>decide (x∈b))=core:=by
   obtain⟨i,hi,O⟩:=bd ha;obtain⟨j,Y,J⟩:=bd Z;have U:=bT.mp h;rcases Nat.lt_trichotomy i j with z|z|z
   ·have:=U i j hi Y z
    rwa [O,J] at this
   ·subst z;exact absurd (O.symm.trans J) G
   ·have:=U j i Y hi z
    rw[O,J] at this;rw[aJ9 (hs' a (hr.subset ha)) (hs' b (hr.subset Z))];exact this
  have:mt2 [a,b]=core:=key
  simp[this] at h2
theorem fQg(nd:hs.Nodup)(core:List Str):Bar hs (mtg hs core):=λb B=>by
 obtain⟨x,y,rfl,h⟩:=aZq (ao.mp B).1;exact⟨nd.sublist h,Nat.le_refl _,λz j=>h.subset j⟩
theorem fQh(hs:List (List Str))(core:List Str):aZf (mtg hs core) []:=λb z j=>by
 obtain⟨x,y,rfl,h⟩:=aZq (ao.mp z).1;exact absurd (j x (by simp)) (by simp)
theorem eQ0(hs:List (List Str))(h:hs.length<=14)(core:List Str):(mtg hs core).length<=9999:=by
 have h1:=bB (λp=>!decide (mt2 p=core)) (ch hs 2);have h2:=dZy hs 2
 have:2^(hs.length-1)<=2^13:=Nat.pow_le_pow_right (by decide) (by lia)
 show(List.filter _ _).length<=9999;lia
abbrev ltn:Nat->Nat->Bool:=λi j=>decide (i<j)
def natE:Enc Nat where
 e:=λi=>D.int (i:Nat)
 inj:=λh=>by injection h with h;omega
 pl:=λ_=>rfl
 dep:=0
 ok:=λn x y _=>by cases n <;> rfl
 lt:=ltn
 okl:=λn x y _=>by cases n <;> rfl
 lte:=λn x y _=>by
  have:ltN n (D.int (x:Nat)) (D.int (y:Nat))=decide ((x:Int)<(y:Int)):=by cases n <;> rfl
  rw[this];exact decide_eq_decide.mpr (by omega)
section
variable(g:Nat->List Str)
def Apr(row:List Nat):Prop:=row.Pairwise λa b=>∀x∈g a,x∉g b
end
def bet(a b:List Nat):Bool:=if a.length=b.length then lexG ltn a b else decide (b.length<a.length)
theorem dZz:∀{a b c:List Nat},lexG ltn a b=true->lexG ltn b c=true->lexG ltn a c=true
 |[],[],_,h,_=>by cases h
 |[],_::_,[],_,h=>by cases h
 |[],_::_,_::_,_,_=>rfl
 |_::_,[],_,h,_=>by cases h
 |_::_,_::_,[],_,h=>by cases h
 |x::a,y::b,z::c,h,h'=>by
  unfold lexG at h h' ⊢
  by_cases B:x=y
  ·subst B;rw[if_pos rfl] at h
   by_cases j:x=z
   ·subst j;rw[if_pos rfl] at h' ⊢;exact dZz h h'
   ·rw[if_neg j] at h' ⊢;exact h'
  ·rw[if_neg B] at h
   by_cases j:y=z
   ·subst j;rw[if_neg B];exact h
   ·rw[if_neg j] at h';have h1:=of_decide_eq_true h;have h2:=of_decide_eq_true h';rw[if_neg (by lia)]
    exact decide_eq_true (by lia)
theorem dX0:∀a:List Nat,lexG ltn a a=false
 |[]=>rfl
 |x::a=>by unfold lexG;rw[if_pos rfl];exact dX0 a
theorem cXc:∀{a b:List Nat},a.length=b.length->lexG ltn a b=false->a≠b->lexG ltn b a=true
 |[],[],_,_,h=>absurd rfl h
 |x::a,y::b,hl,h,j=>by
  unfold lexG at h ⊢
  by_cases e:x=y
  ·subst e;rw[if_pos rfl] at h ⊢;exact cXc (by simpa using hl) h λz=>j (by rw[z])
  ·rw[if_neg e] at h;rw[if_neg (cE e)]
   have:=of_decide_eq_false h
   exact decide_eq_true (by lia)
theorem eZh(h:bet a b=true)(h':bet b c=true):bet a c=true:=by
 unfold bet at h h' ⊢
 by_cases z:a.length=b.length
 ·rw[if_pos z] at h
  by_cases j:b.length=c.length
  ·rw[if_pos j] at h';rw[if_pos (by lia)]
   exact dZz h h'
  ·rw[if_neg j] at h'
   have:=of_decide_eq_true h'
   rw[if_neg (by lia)]
   exact decide_eq_true (by lia)
 ·rw[if_neg z] at h;have h1:=of_decide_eq_true h
  by_cases j:b.length=c.length
  ·rw[if_neg (by lia)]
   exact decide_eq_true (by lia)
  ·rw[if_neg j] at h'
   have:=of_decide_eq_true h'
   rw[if_neg (by lia)]
   exact decide_eq_true (by lia)
theorem gQf(a:List Nat):bet a a=false:=by unfold bet;rw[if_pos rfl];exact dX0 a
def bst(b:List Nat)(l:List (List Nat)):List Nat:=l.foldl (λb r=>if bet r b=true then r else b) b
theorem bQw:∀(l:List (List Nat)) (b:List Nat),bst b l∈b::l/\∀r∈b::l,bet r (bst b l)=false
 |[],b=>⟨by simp[bst],λr B=>by rw[aJ.mp B];exact gQf _⟩
 |x::l,b=>by
  have e:bst b (x::l)=bst (if bet x b=true then x else b) l:=rfl
  obtain⟨h1,h2⟩:=bQw l (if bet x b=true then x else b);rw[e];refine⟨?_,λr B=>?_⟩
  ·rcases av.mp h1 with z|z
   ·rw[z];split <;> simp
   ·exact ak _ (ak _ z)
  ·have h0:=h2 _ ai;rcases av.mp B with rfl|B
   ·by_cases j:bet x r=true
    ·rw[if_pos j] at h0 ⊢;cases z:bet r (bst x l) with
     |false=>rfl
     |true=>rw[eZh j z] at h0;cases h0
    ·rw[if_neg j] at h0 ⊢;exact h0
   ·rcases av.mp B with rfl|B
    ·by_cases j:bet r b=true
     ·rw[if_pos j] at h0 ⊢;exact h0
     ·rw[if_neg j] at h0 ⊢;cases z:bet r (bst b l) with
      |false=>rfl
      |true =>
       exfalso;rcases av.mp h1 with y|y
       ·rw[if_neg j] at y;rw[y] at z;exact j z
       ·rw[if_neg j] at y
        have:bet (bst b l) b=true\/bst b l=b:=by
         rcases Classical.em (bst b l=b) with q|q
         ·exact .inr q
         ·left
          unfold bet at h0 ⊢
          by_cases D:b.length=(bst b l).length
          ·rw[if_pos D] at h0;rw[if_pos D.symm];exact cXc D h0 (cE q)
          ·rw[if_neg D] at h0;rw[if_neg (cE D)]
           have:=of_decide_eq_false h0
           exact decide_eq_true (by lia)
        rcases this with q|q
        ·exact j (eZh z q)
        ·rw[q] at z;exact j z
    ·exact h2 r (ak _ B)
theorem dX1(lo n:Nat):rngD lo n=(List.range' lo n).map natE.e:=by
 induction n generalizing lo with
 |zero=>rfl
 |succ n j =>
  rw[List.range'_succ,aL,<- j]
  rfl
theorem eQ1{α β:Type}{f:α->List β}{a b:List α}(h:a.Sublist b):(a.flatMap f).Sublist (b.flatMap f):=by
 induction h with
 |slnil=>exact .slnil
 |cons x _ j=>rw[bq];exact j.trans (jq _ _)
 |cons_cons x _ j=>rw[bq,bq];exact List.Sublist.append (fj _) j
def lt6(n:Nat):List Str:=(["a", "b", "c", "d", "e", "f"]:List Str).take n
theorem gXh{n:Nat}(h:n<=6):((cutS (bC "abcdefghijklmnopqrstuvwxyz") none (some n)).cps.toList.map λc=>D.str ⟨#[c]⟩)=(lt6 n).map D.str:=by
 have:n=0\/n=1\/n=2\/n=3\/n=4\/n=5\/n=6:=by lia
 rcases this with rfl|rfl|rfl|rfl|rfl|rfl|rfl <;> rfl
theorem gXi{n:Nat}(h:n<=6):cJ4 (cutS (bC "abcdef") none (some n))=(lt6 n).map D.str:=by
 have:n=0\/n=1\/n=2\/n=3\/n=4\/n=5\/n=6:=by lia
 rcases this with rfl|rfl|rfl|rfl|rfl|rfl|rfl <;> rfl
def as(n k:Nat):List (List Str):=ch (lt6 n) k
theorem dX2:∀n,n<7->∀k,k<8->(as n k).Pairwise (λa b=>HT.lexS a b=true)/\(∀t∈as n k,t.Pairwise λa b=>HT.ltS a b=true)/\((n=6/\k=3)\/(as n k).length<=15):=by decide +kernel
theorem cXd(hn:n<=6)(hk:k<=7):SrtT (as n k):=(dX2 n (by lia) k (by lia)).1
theorem bQx(hn:n<=6)(hk:k<=7):∀t∈as n k,Srt t/\t.length<=7:=λt j=>⟨(dX2 n (by lia) k (by lia)).2.1 t j,by have:=(ch_mem j).1;lia⟩
theorem eZi(hn:n<=6)(hk:k<=7)(h:¬ (n=6/\k=3)):(as n k).length<=15:=(dX2 n (by lia) k (by lia)).2.2.resolve_left h
theorem ch15:∀n,n<16->∀m,m<7->(ch (a4 n) m).length<=9999:=by decide +kernel
theorem gQg(z:α)(l:List α)(h:l.length<=15){m:Nat}(hm:m<=6):(ch l m).length<=9999:=by
 have e:=ch_map (λi=>l.getD i z) (a4 l.length) m;rw[dZr] at e;rw[e,ah];exact ch15 _ (by lia) _ (by lia)
theorem fQi(ts:List (List Str))(h:ts.length<=15){m:Nat}(hm:m<=6):(flO ts m).length<=9999:=Nat.le_trans (bB _ _) (gQg [] ts h hm)
def behS(r:List Str)(x:Str):Bool:=r.isEmpty||HT.ltS (r.getLastD ⟨#[]⟩) x
def exS(n:Nat)(r:List Str):List (List Str):=((lt6 n).filter (behS r)).map λx=>r++[x]
theorem eQ2:∀n,n<7->∀t,t<7->as n (t+1)=(as n t).flatMap (exS n):=by decide +kernel
theorem fQj(hn:n<=6)(ht:t<=6):as n (t+1)=(as n t).flatMap (exS n):=eQ2 n (by lia) t (by lia)
theorem eQ3:∀n,n<7->∀t,t<8->(as n t).length<=20:=by decide +kernel
theorem fQk(hn:n<=6)(ht:t<=7):(as n t).length<=20:=eQ3 n (by lia) t (by lia)
end L2
set_option maxHeartbeats 4000000
namespace L2
open PySem
open Toy (ch aQi aQo ch_mem aZp coG naG lfG meG laG Sun aXw bXt dJy flw bJv aJx mem_me)
end L2
namespace L2
open PySem
open Toy (ch aQi aQo ch_mem aZp coG naG lfG meG laG Sun aXw bXt dJy flw bJv aJx mem_me)
theorem me_comm(ha:Srt a)(hb:Srt b):meG a b=meG b a:=Srt.ext (cw _ ha) (cw _ hb) λn=>by rw[mem_me,mem_me];exact⟨λh=>⟨h.2,h.1⟩,λh=>⟨h.2,h.1⟩⟩
def Fm(s:List (List Str))(c:List Str):Prop:=s.Pairwise λa b=>meG a b=c
theorem bJw(h2:2<=s.length)(nd:s.Nodup)(hs:∀o∈s,Srt o){c:List Str}:coG s=some c↔Fm s c:=by
 rw[<- dJy (λa=>by rw[HT.ltS_ir];simp) (λa b h=>by rw[HT.ltS_as h];simp) h2 nd hs]
 match s,h2,hs with
 |a::b::r,_,hs =>
  have eq:∀d:List Str,((a::b::r).Pairwise λother one=>meG one other=d)↔Fm (a::b::r) d:=λd=>by
   constructor
   ·intro h;refine bX ?_ h;intro x y z j e;rw[me_comm (hs x z) (hs y j)];exact e
   ·intro h;refine bX ?_ h;intro x y z j e;rw[me_comm (hs y j) (hs x z)];exact e
  have B:∀d,Fm (a::b::r) d->meG a b=d:=λd h=>(aN.mp h).1 b ai;show(if (a::b::r).Pairwise (λother one=>meG one other=meG a b) then some (meG a b) else none)=some c↔_
  constructor
  ·intro h
   split at h
   ·next D=>cases h;exact(eq _).mp D
   ·cases h
  ·intro h
   have:=B c h
   subst this;rw[if_pos ((eq _).mpr h)]
end L2
namespace Toy
open PySem L2
end Toy
namespace L2
open PySem
open Toy (ch ch_mem aZp bZt meG opD)
end L2
namespace L2
open PySem
open Toy (ch ch_mem aZp coG naG lfG meG aJx mem_me)
end L2
namespace L2
open PySem
open Toy (meG mem_me)
end L2
namespace L2
open PySem
def wt(r:List Str)(x:Str):List Str:=r.filter λy=>!decide (y=x)
theorem mem_wt:y∈wt r x↔y∈r/\y≠x:=by unfold wt;rw[ao];simp
open Toy
theorem gXj{P:Prop}[Decidable P](h:¬ P):D.bl (if false=true then !decide P else decide P)=D.bl false:=by rw[decide_eq_false h];rfl
theorem gXk{P:Prop}[Decidable P](h:¬ P):D.bl (if true=true then !decide P else decide P)=D.bl true:=by rw[decide_eq_false h];rfl
theorem dX3{P:Prop}[Decidable P](h:P):D.bl (if true=true then !decide P else decide P)=D.bl false:=by rw[decide_eq_true h];rfl
end L2
set_option maxHeartbeats 1000000
namespace L2
open PySem PySem.Spec PyProof.Rows
section
variable{X:Cx}{K:Fg}{pos:Pos}{k:Nat}
theorem dX4(hc:X.calm=true:=by rfl):CallR X (.type "tuple") (λxs H Q=>∃x:Str,xs=[.str x]/\x.length<=1000/\∀l,H l=none->Q (.ref l) (upd H l (.tup (x.cps.toList.map λc=>.str ⟨#[c]⟩)))):=by
 intro pins s σ H xs us Q I r h;obtain⟨x,rfl,O,q⟩:=h;obtain⟨u,rfl,G⟩:=aX3 r;obtain⟨t,rfl⟩:=G;have hl:x.cps.size<=1000:=O;refine call_tuple_str (I.ok.hd hc) x t (λh' j acc U it=>?_) (by rw[bH];lia)
 have B:Inv X pins σ H {s with heap:=h',toks:=j}:=I.kept U
 have J:Vals (x.cps.toList.map λc=>V.str ⟨#[c]⟩) acc.toList:=by
  refine dZl (by rw[ah,aW,aW,it.1]) λi y u h1 h2=>?_
  obtain⟨Z,D,z,rfl⟩:=it.2 i u (by rw[<- aS];exact h2)
  rw[aQ,aS,z] at h1;cases h1;exact⟨D,rfl⟩
 have Y:Inv X pins σ (upd H h'.objs.size (.tup (x.cps.toList.map λc=>V.str ⟨#[c]⟩))) {s with heap:=h'.push {cls:=.type "tuple",data:=.seq acc},toks:=j} :=
  B.laid (λb o e=>ae _ e) (Nat.le_refl _) (⟨by rw[ah,aW,bH];lia,acc.toList,J,by rw[Array.toArray_toList];exact⟨gE.new _ _,bJ5⟩⟩)
 exact⟨.ref h'.objs.size,_,Y,rfl,q _ (B.hok.fresh (Nat.le_refl _))⟩
def gXl:RCD:=λds S Q=>match ds with
 |[.str x]=>x.length<=1000/\Q (.tup (x.cps.toList.map λc=>.str ⟨#[c]⟩)) S
 |_=>False
theorem gQh{e:Expr}{t:AD}{p:Pos}(hg:Gl X "tuple")(hm:X.mg "tuple"=none)(ha:PAD K X [e] t)(hc:X.calm=true:=by rfl)(he:aD [e] X.env=(false,eval e X.env)::aD [] X.env:=by rfl)(hpl:(cM pos (aD [] X.env)).any (·.1)=false:=by rfl):PD K X (.Call (.Name "tuple" p) [e] [] pos) (dCB gXl t):=bXe (dX4 hc) (by
 intro F S H ds vs Q QD r l h c
 match ds,h with
 |[.str x],⟨z,q⟩ =>
  obtain⟨v,rfl,j⟩:=l.one;rw[rstr j];exact⟨x,rfl,z,λp B=>c.tup r B (cZx _) q⟩) hg hm cZ9 ha (by decide) (by decide) he hpl
theorem dX5:OpR X (bU .Gt) (λx y H Q=>∃i j,x=.str i/\y=.str j/\Q (.bl (decide (j.cps.toList<i.cps.toList))) H):=by
 intro pins s σ H x y v u Q I B z h;obtain⟨i,j,rfl,rfl,q⟩:=h;obtain⟨t,rfl⟩:=B;obtain⟨D,rfl⟩:=z;exact PySem.P.gt_str (cZ7 I q rfl)
def gtSD:R2D:=λd e S Q=>match d,e with
 |.str i,.str j=>Q (.bl (decide (j.cps.toList<i.cps.toList))) S
 |_,_=>False
theorem gQi:OpD K (λx y H Q=>∃i j,x=.str i/\y=.str j/\Q (.bl (decide (j.cps.toList<i.cps.toList))) H) gtSD:=by
 intro F S H d e x y Q QD r hd he h c;cases d with
 |str i =>
  cases e with
  |str j=>rw[rstr hd,rstr he];exact⟨i,j,rfl,rfl,c.bl r h⟩
  |_=>exact h.elim
 |_=>exact h.elim
theorem gQj(hr:Room k X.A)(ha:PD K X a ta)(hb:PD K X b tb):PTD K X (.Compare a [.Gt] [b] pos) (aZj (dOp gtSD ta tb)):=aX2 dX5 gQi ha hb (nomark _)
end
end L2
namespace Toy
open PySem L2
abbrev s_law_all_sets:Stmt:=top 30
theorem sc_law_all_sets:FnScope ["names", "k", "rows", "size", "longer", "row"] ["names", "k"] (aQ3 s_law_all_sets):=fsc
def aZg:SpD:=λds S Q=>∃n k:Nat,ds=[.int n,.int k]/\n<=6/\k<=7/\Q (.lst ((as n k).map tupS)) S
section
variable{P:ax}{w:aK}{K:ar}{mg:Str->Option ab}{base:bb}{pt cc:Addr}
theorem bQy(T:Tx K mg "_law_all_sets" s_law_all_sets)(B:Bs mg):Df P w K mg base 1 "_law_all_sets" ["names", "k"] (spU K aZg):=by
 refine aZ9 T sc_law_all_sets (λF=>F.binds λ_ _ _ _ _ _=>us2 λ_ _=>rfl) ?_ λf cdv A outer s H E hr=>⟨_,(aQ2 (aQd (i:=2) sc_law_all_sets.nd rfl (a8 rfl) (bJo (b:=true) (aQ0 (aX6 aQ1) aQ1)))
  (aQ2 (aXj du rfl (bQm rfl B.range (aQ0 (dv 1) aQ1)) (aQv (i:=3) sc_law_all_sets.nd rfl (a8 rfl)) (aQ2 (aQd (i:=4) sc_law_all_sets.nd rfl (a8 rfl) (bJo (b:=true) aQ1))
  (aQ2 (aXj du rfl (aZ0 (dv 2)) (aQv (i:=5) sc_law_all_sets.nd rfl (iC rfl)) (aQ4 (dZ3 (cZw (dv 4) (aQ0 (aZ5 (oc:=none) (b:=true) [0] [] rfl sc_law_all_sets.nd (λ_ _ _=>aQg ..) (.own (.cap (i:=5) rfl (by decide +kernel) .nil)) (aQh rfl) (gQ4 (e_sl (b:=false) gZv aJm (aJn (dv 0)))) (cg_name) (λ_ _ _ _ _=>aQa (nd_ ["name", "row"]) rfl (a8 rfl) (.inr rfl)) (λ_ _ _ _ _=>aQw ((PWD.pt (dJm (cJ1 hr (dv 1) (aX6 aQ1)) (dZ0 (gQj hr (dv 0) (e_ix (dv 1) (dJi aQ8)))))))) aQk (λ_ _ _ _ _ _=>aQj rfl (PD.o (aZk (k:=false) (dv 1) (aX6 (aQ0 (dv 0) aQ1)))))) aQ1)))))
  (aQ4 (aQd (i:=2) sc_law_all_sets.nd rfl (a8 rfl) (dv 4))))))
  (aQ4 (aQb (dv 2))))),?_⟩
 ·rintro ds S Q ⟨n,k,rfl,_⟩;rfl
 ·rintro ds S Q ⟨n,k,rfl,hn,hk,q⟩;refine⟨z9999 (by decide),z9999 (by decide),λr0 hr0=>⟨⟨by lia,by lia⟩,?_⟩⟩
  rw[cO];refine aZt (λt Γ S'=>∃(rp:Addr) (x3 x4 x5:Option D),Γ=[some (.int n),some (.int k),some (.ref rp),x3,x4,x5]/\S rp=none/\S' rp=some (.lst ((as n t).map tupS))/\∀b o,S b=some o->S' b=some o) ⟨r0,none,none,none,rfl,hr0,by rw[aQc];unfold as;rw[aQo];rfl,λb o e=>by rw[supd_ne (by rintro rfl;rw[hr0] at e;cases e)];exact e⟩ ?_ ?_
  ·rintro t x Γ S' N Y ⟨rp,x3,x4,x5,rfl,Z,hS,hs⟩ hN;obtain⟨ht,rfl⟩:=eZd Y;refine⟨trivial,z9999 (by decide),λlp hlp=>?_⟩
   have O:lp≠rp:=by rintro rfl;rw[hlp] at hS;cases hS
   have U:S lp=none:=by
    cases e:S lp with
    |none=>rfl
    |some o=>rw[hs _ _ e] at hlp;cases hlp
   refine⟨_,(supd_ne (cE O)).trans hS,?_⟩;have j:=fQj hn (show t<=6 by lia)
   have hcl:=fQk hn (show t+1<=7 by lia)
   have G:∀r∈as n t,r.length=t:=λr h=>(ch_mem h).1;generalize as n t=R at hS G j;refine aZt (λi Γ S2=>∃(y5:Option D),Γ=[some (.int n),some (.int k),some (.ref rp),some (.int t),some (.ref lp),y5]/\S2 rp=some (.lst (R.map tupS))/\S2 lp=some (.lst (((R.take i).flatMap (exS n)).map tupS))/\∀b o,S b=some o->S2 b=some o)
    ⟨x5,rfl,(supd_ne (cE O)).trans hS,aQc,λb o e=>by rw[supd_ne (by rintro rfl;rw[U] at e;cases e)];exact hs b o e⟩ ?_ ?_
   ·rintro i x Γ S2 N2 Y ⟨y5,rfl,h1,h2,J⟩ hN2;rw[aQ,bF] at Y;obtain⟨r,hr',rfl⟩:=Y;have hrl:=G r (am hr');refine⟨h1,⟨_,h2⟩,n,rfl,by decide,?_⟩
    show aZd _ _ _ _ _ (cJ4 (cutS (bC "abcdef") none (some n))) _ _ _;rw[gXi hn];have l6:(lt6 n).length<=6:=by unfold lt6;rw[aP];exact Nat.min_le_right _ _
    have ok:okE 9 (tupS r) (.tup [])=true:=by unfold tupS okE;rw[d8];rfl
    refine aQm (p:=behS r) (f:=λx=>tupS (r++[x])) (λx Y Q q=>?_) (λx Y _ Q q=>⟨z9999 (by show 1<=9999;decide),z9999 (by show(r.map D.str).length+1<=9999;rw[ah];lia),?_⟩) (z9999 (by show 0+(lt6 n).length<=_;lia)) ?_
    ·cases r with
     |nil=>exact⟨z9999 (by decide),ok,true,rfl,q⟩
     |cons a l =>
      have lt:atI ((a::l).map D.str) (-1)=some (.str ((a::l).getLastD ⟨#[]⟩)):=by rw[cQt,dZv (by simp) ⟨#[]⟩];rfl
      refine⟨z9999 (by decide),ok,false,gXj (by intro z;injection z with z;cases z),_,_,rfl,lt,_,rfl,?_⟩
      exact q
    ·have e:tupS (r++[x])=.tup (r.map D.str++[.str x]):=by unfold tupS;rw[bK];rfl
     rw[e] at q;exact q
    intro p2 hp2;have n1:p2≠lp:=by rintro rfl;rw[hp2] at h2;cases h2
    have n2:p2≠rp:=by rintro rfl;rw[hp2] at h1;cases h1
    have hSp:S p2=none:=by
     cases e:S p2 with
     |none=>rfl
     |some o=>rw[J _ _ e] at hp2;cases hp2
    have et:(R.take (i+1)).flatMap (exS n)=(R.take i).flatMap (exS n)++exS n r:=by
     rw[cz,hr',gC];simp
    have hz:((R.take i).flatMap (exS n)).length+(exS n r).length<=20:=by
     have h3:=(eQ1 (f:=exS n) (cF (i+1) R)).length_le;rw[et,au,<- j] at h3;lia
    have he:(((lt6 n).filter (behS r)).map λx=>tupS (r++[x]))=(exS n r).map tupS:=by unfold exS;rw[bg];rfl
    rw[bW,he];refine⟨_,_,(supd_ne (cE n1)).trans h2,aQc,?_,hN2 _ _ ⟨_,rfl,?_,?_,λb o e=>?_⟩⟩
    ·rw[ah,ah,bH];lia
    ·rw[supd_ne (cE O),supd_ne (cE n2)];exact h1
    ·rw[aQc,et,bK]
    ·rw[supd_ne (by rintro rfl;rw[U] at e;cases e),supd_ne (by rintro rfl;rw[hSp] at e;cases e)]
     exact J b o e
   ·rintro Γ S2 ⟨y5,rfl,h1,h2,J⟩;rw[ah,cx,<- j] at h2;exact⟨h1,hN _ _ ⟨lp,_,_,_,rfl,U,h2,J⟩⟩
  ·rintro Γ S' ⟨rp,x3,x4,x5,rfl,Z,hS,hs⟩;rw[aJ5] at hS;exact⟨trivial,eZ9 hS hs Z q⟩
end
end Toy
namespace L2
open PySem Toy
end L2
namespace Toy
open PySem L2
abbrev s_law_few:Stmt:=top 31
theorem cJa:FnScope ["names", "k"] ["names", "k"] (aQ3 s_law_few):=fsc
def aJy:SpD:=λds S Q=>∃n k:Nat,ds=[.int n,.int k]/\n<=7/\k<=7/\Q (.bl (decide (n<=6)&&decide ((as n k).length<16))) S
section
variable{P:ax}{w:aK}{K:ar}{mg:Str->Option ab}{base:bb}{pt cc:Addr}
theorem cJb(T:Tx K mg "_law_few" s_law_few)(B:Bs mg)(d_law_all_sets:Df P w K mg base 1 "_law_all_sets" ["names", "k"] (spU K aZg)):Df P w K mg base 2 "_law_few" ["names", "k"] (spU K aJy):=by
 refine aZ9 T cJa (λF=>F.binds λ_ _ _ _ _ _=>us2 λ_ _=>rfl) ?_ λf O A outer s H E j=>⟨_,(aQ4 (aQb (gX1 (e_le j (dv 0) aQ8) (fJe (e_lt j (bQ0 rfl B.len (aQ0 (aQ5 d_law_all_sets j rfl (aQ0 (dv 0) (aQ0 (dv 1) aQ1))) aQ1)) aQ8))))),?_⟩
 ·rintro ds S Q ⟨k,m,rfl,_⟩;rfl
 ·rintro ds S Q ⟨n,k,rfl,U,G,q⟩;refine⟨_,rfl,?_⟩;have D:decide ((n:Int)<=6)=decide (n<=6):=decide_eq_decide.mpr (by lia)
  by_cases h:n<=6
  ·rw[if_pos (by rw[D];exact decide_eq_true h)]
   refine⟨n,k,rfl,h,G,?_⟩;refine⟨_,rfl,?_⟩;have J:decide ((((as n k).map tupS).length:Int)<16)=decide ((as n k).length<16):=by rw[ah];exact decide_eq_decide.mpr (by lia)
   have z:=q;rw[decide_eq_true h,eQ,<- J] at z;exact aQ7 z
  ·rw[if_neg (by rw[D,decide_eq_false h];simp)]
   rw[decide_eq_false h,Bool.false_and] at q;exact aQ7 q
end
abbrev s_choices_of:Stmt:=top 5
theorem sc_choices_of:FnScope ["things", "many", "found", "at", "one"] ["things", "many"] (aQ3 s_choices_of):=fsc
def aZ1:SpD:=dJz 8
section
variable{P:ax}{w:aK}{K:ar}{mg:Str->Option ab}{base:bb}{pt cc:Addr}
theorem fQl(T:Tx K mg "choices_of" s_choices_of)(B:Bs mg)(d_choices_of:Df P w K mg base k "choices_of" ["things", "many"] (spU K (dJz n))):Df P w K mg base (k+1) "choices_of" ["things", "many"] (spU K (dJz (n+1))):=by
 refine aZ9 T sc_choices_of (λF=>F.binds λ_ _ _ _ _ _=>us2 λ_ _=>rfl) ?_ λf cdv A outer s H E hr=>⟨_,(aQ2 (aZy (cJ1 hr (dv 1) aQ8) (aQ4 (aQb (bJo (b:=false) (aQ0 (aX6 aQ1) aQ1)))) aQq)
  (aQ2 (aZy (bZr (eJx aQ8 (dv 1) (bQ0 rfl B.len (aQ0 (dv 0) aQ1)))) (aQ4 (aQb (bJo (b:=false) aQ1))) aQq)
  (aQ2 (aQd (i:=2) sc_choices_of.nd rfl (a8 rfl) (bJo (b:=true) aQ1))
  (aQ2 (aXj du rfl (fJp rfl B.enumerate (aQ0 (dv 0) aQ1)) (cZr rfl (aZm (aQv (i:=3) sc_choices_of.nd rfl (a8 rfl)) (aZm (aQv (i:=4) sc_choices_of.nd rfl (iC rfl)) bXh))) (aQ4 (dZ3 (cZw (dv 2) (aQ0 (aZ5 (oc:=none) (b:=true) [0] [] rfl sc_choices_of.nd (λ_ _ _=>aQg ..) (.own (.cap (i:=4) rfl (by decide +kernel) .nil)) (aQh rfl) (aZ0 (aQ5 d_choices_of hr rfl (aQ0 (e_sl (b:=false) (dv 0) (aJn (aZk (k:=false) (dv 3) aQ8)) aJm) (aQ0 (eJ8 (dv 1) aQ8) aQ1)))) (cg_name) (λ_ _ _ _ _=>aQa (nd_ ["more", "one"]) rfl (a8 rfl) (.inr rfl)) (λ_ _ _ _ _=>aZ4) aQk (λ_ _ _ _ _ _=>aQj rfl (PD.o (aZk (k:=false) (aX6 (aQ0 (dv 1) aQ1)) (dv 0))))) aQ1)))))
  (aQ4 (aQb (dv 2))))))),?_⟩
 ·rintro ds S Q ⟨xs,m,rfl,_⟩;rfl
 ·rintro ds S Q ⟨xs,m,rfl,hm,hx,q⟩;refine⟨rfl,_,rfl,ite2 (λc1=>?_) λc1=>?_⟩
  ·have e:m=0:=by
    have:=of_decide_eq_true c1
    injection this with this
    lia
   subst e;rw[aQo] at q;exact⟨z9999 (by decide),z9999 (by decide),aQ7 q⟩
  have m0:m≠0:=λe=>c1 (decide_eq_true (by rw[e];rfl))
  refine⟨_,rfl,ite2 (λ_=>?_) λc=>absurd (decide_eq_true (by lia)) c⟩
  refine⟨_,rfl,_,rfl,ite2 (λc2=>?_) λc2=>?_⟩
  ·have hb:xs.length<m:=by simp at c2;lia
   rw[ch_big xs m hb] at q;exact⟨z9999 (by decide),aQ7 q⟩
  have hb:m<=xs.length:=by simp at c2;lia
  obtain⟨c,rfl⟩:∃c,m=c+1:=⟨m-1,by lia⟩
  refine⟨z9999 (by decide),λfp G=>?_⟩
  have hcl:=λm=>Nat.le_trans (bZt xs m) (Nat.pow_le_pow_right (by decide) hx)
  refine aZt (λi Γ S'=>∃(O J:Option D) (acc:List (List D)),Γ=[some (.tup xs),some (.int ((c+1))),some (.ref fp),O,J]/\S' fp=some (.lst (acc.map D.tup))/\acc++ch (xs.drop i) (c+1)=ch xs (c+1)/\∀b o,S b=some o->S' b=some o)
   ⟨none,none,[],rfl,aQc,rfl,λb o e=>by rw[supd_ne (by rintro rfl;rw[G] at e;cases e)];exact e⟩ ?_ ?_
  ·rintro i x Γ S' N Y ⟨O,J,acc,rfl,hf,j,hs⟩ hN;obtain⟨y,hy,rfl⟩:=bQo xs 0 i x Y;have hi:i<xs.length:=by
    rcases Nat.lt_or_ge i xs.length with z|z
    ·exact z
    ·rw[cC z] at hy;cases hy
   have U:xs[i]=y:=by rw[af hi] at hy;exact a7 hy
   have hd:=fQ7 xs i c hi;rw[U] at hd;have hlen:acc.length+(ch (xs.drop (i+1)) c).length<=2^20:=by
    have h1:=congrArg dU j;rw[hd,au,au,ah] at h1
    have:=hcl (c+1)
    lia
   refine⟨trivial,rfl,rfl,⟨_,hf⟩,_,rfl,xs.drop (i+1),c,?_,by lia,by rw[bR];lia,_,rfl,aZo (f:=λmore=>D.tup (y::more)) (λmore hm Q q=>?_) ?_ ?_⟩
   ·show [D.tup (cutD xs (some (0+i+1)) none),D.int (((c+1:Nat))-1)]=_;rw[Int.zero_add,cXa,show((c+1:Nat):Int)-1=c by lia]
   ·have h1:=(ch_mem hm).1;exact⟨z9999 (by show 1<=9999;decide),z9999 (by show 1+more.length<=9999;lia),q⟩
   ·rw[bH];show 0+(ch (xs.drop (i+1)) c).length<=_;lia
   ·intro p2 hp2;have Z:p2≠fp:=by rintro rfl;rw[hp2] at hf;cases hf
    refine⟨_,_,(supd_ne (cE Z)).trans hf,aQc,?_,hN _ _ ⟨_,_,acc++(ch (xs.drop (i+1)) c).map (y::·),rfl,?_,?_,λb o e=>?_⟩⟩
    ·rw[bW,ah,ah,bH];lia
    ·rw[aQc,bK,bg];rfl
    ·rw[be,<- hd];exact j
    ·rw[supd_ne (by rintro rfl;rw[G] at e;cases e),supd_ne (by rintro rfl;rw[hs _ _ e] at hp2;cases hp2)]
     exact hs b o e
  ·rintro Γ S' ⟨O,J,acc,rfl,hf,j,hs⟩;rw[bQn,bE (Nat.le_refl _),eZf,ce] at j;refine⟨trivial,eZ9 hf hs G (j▸q)⟩
theorem eZj(T:Tx K mg "choices_of" s_choices_of)(B:Bs mg):∀n:Nat,Df P w K mg base (1+n) "choices_of" ["things", "many"] (spU K (dJz n))
 |0=>T.df (λF=>F.binds λ_ _ _ _ _ _=>us2 λ_ _=>rfl) λF=>F.ok sc_choices_of (λvs H Q E ⟨_,_,_,_,_,_,⟨_,_,_,h,_⟩,_⟩=>absurd h (Nat.not_lt_zero _)) λj A outer s H vs Q D z ⟨_,_,_,_,_,_,⟨_,_,_,h,_⟩,_⟩=>absurd h (Nat.not_lt_zero _)
 |n+1=>fQl T B (eZj T B n)
theorem bXx(T:Tx K mg "choices_of" s_choices_of)(B:Bs mg):Df P w K mg base 9 "choices_of" ["things", "many"] (spU K aZ1):=eZj T B 8
end
abbrev s_without_names:Stmt:=top 4
theorem sc_without_names:FnScope ["one", "row"] ["one", "row"] (aQ3 s_without_names):=fsc
section
variable{P:ax}{w:aK}{K:ar}{mg:Str->Option ab}{base:bb}{pt cc:Addr}
theorem bQ1(T:Tx K mg "without_names" s_without_names)(B:Bs mg):Df P w K mg base 1 "without_names" ["one", "row"] (spU K aQl):=by
 refine aZ9 T sc_without_names (λF=>F.binds λ_ _ _ _ _ _=>us2 λ_ _=>rfl) ?_ λf U A outer s H E J=>⟨_,(aQ4 (aQb (aZc rfl B.tuple (aQ0 (aZ5 (oc:=none) (b:=false) [0] [] rfl sc_without_names.nd (λ_ _ _=>aQg ..) (.own (.cap (i:=1) rfl (by decide +kernel) .nil)) (aQh rfl) (aZ0 (dv 0)) (cg_name) (λ_ _ _ _ _=>aQa (nd_ ["name", "row"]) rfl (a8 rfl) (.inr rfl)) (λ_ _ _ _ _=>aQw ((cZp J (dv 0) (dv 1)))) aQk (λ_ _ _ _ _ _=>aQj rfl (PD.o (dv 0)))) aQ1)))),?_⟩
 ·rintro ds S Q ⟨α,dα,E,one,row,O,j,rfl,_⟩;rfl
 ·rintro ds S Q ⟨α,dα,E,one,row,O,j,rfl,Y,h1,h2,hl,q⟩;have go:∀Q':List D->Sto->Prop,Q' ((wo one row).map E.e) S->aZd (aQx 0) (aZj (dOp (inD true) (dVar 0) (dVar 1))) (bXi (dVar 0)) (λ_=>True) [none,some j] (one.map E.e) [] S Q':=λQ' z =>
   aQm (λx G Q q=>in_t (by lia) h2.sq q) (λx G _ Q q=>q) (z9999 (by show 0+one.length<=_;lia)) z
  rcases h1 with rfl|rfl
  ·exact⟨one.map E.e,rfl,go _ ⟨_,rfl,aQ7 q⟩⟩
  ·exact⟨one.map E.e,rfl,go _ ⟨_,rfl,aQ7 q⟩⟩
end
abbrev s_meets:Stmt:=top 2
theorem sc_meets:FnScope ["one", "row"] ["one", "row"] (aQ3 s_meets):=fsc
section
variable{P:ax}{w:aK}{K:ar}{mg:Str->Option ab}{base:bb}{pt cc:Addr}
theorem eQ4(T:Tx K mg "meets" s_meets)(B:Bs mg):Df P w K mg base 1 "meets" ["one", "row"] (spU K aJ7):=by
 refine aZ9 T sc_meets (λF=>F.binds λ_ _ _ _ _ _=>us2 λ_ _=>rfl) ?_ λf O A outer s H E G=>⟨_,(aQ4 (aQb (gX4 rfl B.any (aQ0 (aZ5 (oc:=none) (b:=false) [0] [] rfl sc_meets.nd (λ_ _ _=>aQg ..) (.own (.cap (i:=0) rfl (by decide +kernel) .nil)) (aQh rfl) (aZ0 (dv 1)) (cg_name) (λ_ _ _ _ _=>aQa (nd_ ["name", "one"]) rfl (a8 rfl) (.inr rfl)) (λ_ _ _ _ _=>aZ4) aQk (λ_ _ _ _ _ _=>aQj rfl (PD.o (e_in G (dv 0) (dv 1))))) aQ1)))),?_⟩
 ·rintro ds S Q ⟨α,dα,E,one,row,j,J,rfl,_⟩;rfl
 ·rintro ds S Q ⟨α,dα,E,one,row,j,J,rfl,U,h1,h2,hl,q⟩;have go:∀Q':List D->Sto->Prop,Q' (row.map λd=>D.bl (decide (d∈one))) S->aZd (aQx 0) dYes (bXi (dOp (inD false) (dVar 0) (dVar 1))) (λ_=>True) [none,some j] (row.map E.e) [] S Q':=λQ' z =>
   aZo (λd hd Q q=>in_e (by lia) h1.sq q) (z9999 (by show 0+row.length<=_;lia)) z
  have e:(row.map λd=>decide (d∈one)).any id=mts one row:=by rw[List.any_map];rfl
  rw[<- e] at q;rcases h2 with rfl|rfl
  ·exact⟨row.map E.e,rfl,go _ ⟨row.map λd=>decide (d∈one),by rw[bg];rfl,aQ7 q⟩⟩
  ·exact⟨row.map E.e,rfl,go _ ⟨row.map λd=>decide (d∈one),by rw[bg];rfl,aQ7 q⟩⟩
end
abbrev s_most_free:Stmt:=top 22
theorem sc_most_free:FnScope ["things", "barred", "over", "one", "best", "other"] ["things", "barred", "over"] (aQ3 s_most_free):=fsc
abbrev s_most_free_with:Stmt:=top 23
theorem sc_most_free_with:FnScope ["one", "things", "barred", "over", "shorter", "shut_out", "more"] ["one", "things", "barred", "over"] (aQ3 s_most_free_with):=fsc
def opE{α:Type}(E:Enc α):Option (List α)->D
 |none=>.non
 |some r=>.tup (r.map E.e)
def cJc(n:Nat):SpD:=λds S Q=>∃(α:Type) (_:DecidableEq α) (E:Enc α) (ts:List α) (bs:List (List α)) (over:Int),ds=[.tup (ts.map E.e),.lst (bs.map λb=>.tup (b.map E.e)),.int over]/\E.dep<=3/\ts.Nodup/\ts.length<n/\ts.length<=99/\bs.length<=9999/\(∀b∈bs,b.length<=99)/\Bar ts bs/\∀m,MF ts bs over m->Q (opE E m) S
def eZk(n:Nat):SpD:=λds S Q=>∃(α:Type) (_:DecidableEq α) (E:Enc α) (x:α) (ts:List α) (bs:List (List α)) (over:Int),ds=[E.e x,.tup (ts.map E.e),.lst (bs.map λb=>.tup (b.map E.e)),.int over]/\E.dep<=3/\ts.Nodup/\ts.length<n/\ts.length<=99/\bs.length<=9999/\(∀b∈bs,b.length<=99)/\Bar (x::ts) bs/\∀m,MF (wo ts (shut bs x)) (brd bs x) (over-1) m->Q (opE E (m.map (x::·))) S
def aXb:SpD:=cJc 18
theorem gQk(h:cJc 0 ds S Q):False:=by
 obtain⟨α,dα,E,j,bs,over,_,_,_,h,_⟩:=h;exact Nat.not_lt_zero _ h
section
variable{P:ax}{w:aK}{K:ar}{mg:Str->Option ab}{base:bb}{pt cc:Addr}
theorem eQ5{k n:Nat}(T:Tx K mg "most_free_with" s_most_free_with)(B:Bs mg)(d_without_names:Df P w K mg base k "without_names" ["one", "row"] (spU K aQl))(d_meets:Df P w K mg base k "meets" ["one", "row"] (spU K aJ7))(d_most_free:Df P w K mg base k "most_free" ["things", "barred", "over"] (spU K (cJc n))):Df P w K mg base (k+1) "most_free_with" ["one", "things", "barred", "over"] (spU K (eZk n)):=by
 refine aZ9 T sc_most_free_with (λF=>F.binds λ_ _ _ _ _ _=>us4 λ_ _ _ _=>rfl) ?_ λf cdv A outer s H E z=>⟨_,(aQ2 (aJp (i:=4) rfl (a8 rfl) (N':=["some", "one"]) (oc:=none) (b:=false) [0] [] rfl sc_most_free_with.nd (λ_ _ _=>aQg ..) (.own (.cap (i:=0) rfl (by decide +kernel) .nil)) (aQh rfl) (aZ0 (dv 2)) (cg_name (i:=0)) (λ_ _ _ _ _=>aQa (i:=0) (nd_ ["some", "one"]) rfl (a8 rfl) (.inr rfl)) (λ_ _ _ _ _=>aZ4) aQk (λ_ _ _ _ _ _=>aQj rfl (by exact PD.o (aQ5 d_without_names z rfl (aQ0 (dv 0) (aQ0 (aX6 (aQ0 (dv 1) aQ1)) aQ1))))))
  (aQ2 (aQd (i:=5) sc_most_free_with.nd rfl (iC rfl) (aZ5 (N':=["some"]) (oc:=none) (b:=false) [0] [] rfl sc_most_free_with.nd (λ_ _ _=>aQg ..) (.own .nil) (aQh rfl) (aZ0 (dv 4)) (cg_name (i:=0)) (λ_ _ _ _ _=>aQa (i:=0) (nd_ ["some"]) rfl (a8 rfl) (.inr rfl)) (λ_ _ _ _ _=>aQw (by exact(cJ1 z (bQ0 rfl B.len (aQ0 (dv 0) aQ1)) aQ8))) aQk (λ_ _ _ _ _ _=>aQj rfl (by exact PD.o (e_ix (dv 0) aQ8)))))
  (aQ2 (aQd (i:=6) sc_most_free_with.nd rfl (a8 rfl) (aQ5 d_most_free z rfl (aQ0 (aQ5 d_without_names z rfl (aQ0 (dv 1) (aQ0 (dv 5) aQ1))) (aQ0 (aZ5 (N':=["some", "shut_out"]) (oc:=none) (b:=false) [0] [] rfl sc_most_free_with.nd (λ_ _ _=>aQg ..) (.own (.cap (i:=5) rfl (by decide +kernel) .nil)) (aQh rfl) (aZ0 (dv 4)) (cg_name) (λ_ _ _ _ _=>aQa (nd_ ["some", "shut_out"]) rfl (a8 rfl) (.inr rfl)) (λ_ _ _ _ _=>aQw ((bZr (aJ4 (aQ5 d_meets z rfl (aQ0 (dv 0) (aQ0 (dv 1) aQ1))))))) aQk (λ_ _ _ _ _ _=>aQj rfl (PD.o (dv 0)))) (aQ0 (eJ8 (dv 3) aQ8) aQ1)))))
  (aQ4 (aQb (bXg (fJd z (dv 6) bZ9) bZ9 (aZk (k:=false) (aX6 (aQ0 (dv 0) aQ1)) (dv 6)))))))),?_⟩
 ·rintro ds S Q ⟨α,dα,E,x,ts,bs,over,rfl,_⟩;rfl
 ·rintro ds S Q ⟨α,dα,E,x,ts,bs,over,rfl,hE,nd,hn,ht,hb,hs,G,q⟩;have hsl:(shrt bs x).length=bs.length:=ah ..;have O:∀s∈shrt bs x,s.length<=99:=λs h=>by
   obtain⟨t,J,rfl⟩:=aR.mp h;exact Nat.le_trans (bB _ _) (hs t J)
  refine⟨_,rfl,aZo (λs h Q q=>⟨z9999 (by show 1<=9999;decide),α,dα,E,s,[x],_,_,rfl,by omega,.inl rfl,.inl rfl,by have:=hs s h;omega,q⟩) (z9999 (by show 0+bs.length<=_;omega)) ?_⟩
  have e1:([]++bs.map λs=>D.tup ((wo s [x]).map E.e))=(shrt bs x).map λb=>D.tup (b.map E.e):=by unfold shrt;rw[bg];rfl
  rw[e1];have e2:(((shrt bs x).filter λs=>decide (s.length=1)).map λs:List α=>match s with|y::_=>E.e y|[]=>D.non)=(shut bs x).map E.e:=by
   unfold shut;generalize shrt bs x=sh
   induction sh with
   |nil=>rfl
   |cons s sh ih =>
    rw[cb,cK]
    by_cases h1:s.length=1
    ·match s,h1 with
     |[y],_=>exact congrArg (E.e y::·) ih
    ·rw[if_neg (by simpa using h1),if_neg h1]
     exact ih
  have U:(shut bs x).length<=9999:=by
   have:=congrArg dU e2
   rw[ah,ah] at this;have h2:=bB (λs:List α=>decide (s.length=1)) (shrt bs x);omega
  have hbr:(brd bs x).length<=9999:=Nat.le_trans (bB _ _) (by omega)
  have Z:∀s∈brd bs x,s.length<=99:=λs h=>O s (ao.mp h).1;have hwl:(wo ts (shut bs x)).length<=ts.length:=bB _ _;refine⟨_,rfl,aQm (p:=λs=>decide (s.length=1)) (f:=λs:List α=>match s with|y::_=>E.e y|[]=>D.non) (λs h Q q=>⟨_,rfl,rfl,_,rfl,?_⟩) (λs h hp Q q=>?_) (z9999 (by show 0+(shrt bs x).length<=_;omega)) ?_⟩
  ·have e:(if false=true then !decide (D.int ((s.map E.e).length)=D.int 1) else decide (D.int ((s.map E.e).length)=D.int 1))=decide (s.length=1):=by
    rw[ah];exact decide_eq_decide.mpr ⟨λh=>by injection h with h;omega,λh=>by rw[h];rfl⟩
   exact e▸q
  ·have h1:=of_decide_eq_true hp
   match s,h1 with
   |[y],_=>exact⟨[E.e y],E.e y,rfl,aJe rfl,q⟩
  rw[bW,e2];refine⟨α,dα,E,ts,shut bs x,_,_,rfl,by omega,.inl rfl,.inr rfl,by omega,_,rfl,aQm (λs h Q q=>⟨α,dα,E,s,shut bs x,_,_,rfl,by omega,.inl rfl,.inr rfl,U,q⟩) (λs h _ Q q=>q) (z9999 (by show 0+(shrt bs x).length<=_;omega)) ?_⟩
  refine⟨α,dα,E,wo ts (shut bs x),brd bs x,over-1,rfl,hE,nd.sublist cR,by omega,by omega,hbr,Z,G.with,λm hm=>?_⟩
  have:=q m hm
  cases m with
  |none=>exact⟨_,rfl,aQ7 this⟩
  |some r =>
   have Y:=hm;have hl:=Y.sub.length_le;exact⟨_,rfl,z9999 (by show 1<=9999;decide),z9999 (by show 1+(r.map E.e).length<=9999;rw[ah];omega),aQ7 this⟩
theorem gQl(T:Tx K mg "most_free" s_most_free)(B:Bs mg)(d_most_free_with:Df P w K mg base (k+1) "most_free_with" ["one", "things", "barred", "over"] (spU K (eZk n)))(d_most_free:Df P w K mg base (k+1) "most_free" ["things", "barred", "over"] (spU K (cJc n))):Df P w K mg base (k+2) "most_free" ["things", "barred", "over"] (spU K (cJc (n+1))):=by
 refine aZ9 T sc_most_free (λF=>F.binds λ_ _ _ _ _ _=>us3 λ_ _ _=>rfl) ?_ λf cdv A outer s H E O=>⟨_,(aQ2 (aZy (gZz O (bQ0 rfl B.len (aQ0 (dv 0) aQ1)) (dv 2)) (aQ4 (aQb bZ9)) aQq)
  (aQ2 (aZy (bZr (aJ4 (dv 1))) (aQ4 (aQb (dv 0))) aQq)
  (aQ2 (aQd (i:=3) sc_most_free.nd rfl (iC rfl) (e_ix (dv 0) aQ8))
  (aQ2 (aQd (i:=4) sc_most_free.nd rfl (a8 rfl) (aQ5 d_most_free_with O rfl (aQ0 (dv 3) (aQ0 (e_sl (b:=false) (dv 0) (aJn aQ8) aJm) (aQ0 (dv 1) (aQ0 (dv 2) aQ1))))))
  (bQr (aZy (cQq O (dv 4) bZ9) (aQ4 (aQd (i:=2) sc_most_free.nd rfl (a8 rfl) (bQ0 rfl B.len (aQ0 (dv 4) aQ1)))) aQq)
  (aQ2 (aQd (i:=5) sc_most_free.nd rfl (a8 rfl) (aQ5 d_most_free O rfl (aQ0 (e_sl (b:=false) (dv 0) (aJn aQ8) aJm) (aQ0 (aZ5 (oc:=none) (b:=false) [0] [] rfl sc_most_free.nd (λ_ _ _=>aQg ..) (.own (.cap (i:=3) rfl (by decide +kernel) .nil)) (aQh rfl) (aZ0 (dv 1)) (cg_name) (λ_ _ _ _ _=>aQa (nd_ ["some", "one"]) rfl (a8 rfl) (.inr rfl)) (λ_ _ _ _ _=>aQw ((cZp O (dv 1) (dv 0)))) aQk (λ_ _ _ _ _ _=>aQj rfl (PD.o (dv 0)))) (aQ0 (dv 2) aQ1)))))
  (aQ4 (aQb (bXg (fJd O (dv 5) bZ9) (dv 4) (dv 5)))))))))),?_⟩
 ·rintro ds S Q ⟨α,dα,E,ts,bs,over,rfl,_⟩;rfl
 ·rintro ds S Q ⟨α,dα,E,ts,bs,over,rfl,hE,nd,hn,ht,Z,hs,G,q⟩;refine⟨_,rfl,_,rfl,ite2 (λc1=>?_) λc1=>?_⟩
  ·exact aQ7 (q none (gQc (by have:=of_decide_eq_true c1;rwa [ah] at this)))
  have h1:=λz=>c1 (decide_eq_true (by rw[ah];exact z))
  match bs,Z,hs,G,q with
  |[],_,_,_,q=>exact aQ7 (q _ (gQd h1))
  |b0::J,Z,hs,G,q =>
   match ts,nd,hn,ht,G,h1,q with
   |[],_,_,_,G,_,_ =>
    exfalso;obtain⟨_,l2,m⟩:=G b0 ai;cases b0 with
    |nil=>simp at l2
    |cons y b0=>exact absurd (m y ai) (by simp)
   |x::ts,nd,hn,ht,G,h1,q =>
    simp only[az] at ht hn;have U:=(bo.mp nd).2;have ec:cutD ((x::ts).map E.e) (some 1) none=ts.map E.e:=cXa _ 0;refine⟨(x::ts).map E.e,E.e x,rfl,aJe rfl,1,rfl,α,dα,E,x,ts,b0::J,over,?_,hE,U,by lia,by lia,Z,hs,G,λm hm=>?_⟩
    ·rw[ec]
    generalize hbd:b0::J=B at q hm Z hs G;have hml:∀r,m=some r->r.length<=ts.length:=λr e=>by
     subst e;have hm':=hm;exact Nat.le_trans hm'.sub.length_le (bB _ _)
    refine⟨fun Γ' S'=>Γ'=[some (.tup ((x::ts).map E.e)),some (.lst (B.map λb=>D.tup (b.map E.e))),some (.int (ovr over m)),some (E.e x),some (opE E (m.map (x::·))),none]/\S'=S,?_,?_⟩
    ·cases m with
     |none=>exact⟨_,rfl,rfl,rfl⟩
     |some r =>
      refine⟨_,rfl,_,rfl,?_,rfl⟩;rw[ah];rfl
    rintro Γ' S' ⟨rfl,rfl⟩;refine⟨1,rfl,_,rfl,aQm (λs h Q q=>in_t (by lia) rfl q) (λs h _ Q q=>q) (z9999 (by show 0+B.length<=_;lia)) ?_⟩
    refine⟨α,dα,E,ts,B.filter λs=>!decide (x∈s),ovr over m,?_,hE,U,by lia,by lia,Nat.le_trans (bB _ _) Z,λs h=>hs s (ao.mp h).1,G.off,λo ho=>?_⟩
    ·rw[ec];rfl
    have Y:=q _ (fQc nd hm ho);cases o with
    |none=>exact⟨_,rfl,aQ7 Y⟩
    |some r=>exact⟨_,rfl,aQ7 Y⟩
theorem dX6(T:Tx K mg "most_free" s_most_free)(T2:Tx K mg "most_free_with" s_most_free_with)(B:Bs mg)(d_without_names:Df P w K mg base 1 "without_names" ["one", "row"] (spU K aQl))(d_meets:Df P w K mg base 1 "meets" ["one", "row"] (spU K aJ7)):∀n,Df P w K mg base (1+2*n) "most_free" ["things", "barred", "over"] (spU K (cJc n))
 |0=>T.df (λF=>F.binds λ_ _ _ _ _ _=>us3 λ_ _ _=>rfl) λF=>F.ok sc_most_free (λvs H Q E ⟨_,_,_,_,_,_,h,_⟩=>(gQk h).elim) λz A outer s H vs Q G D ⟨_,_,_,_,_,_,h,_⟩=>(gQk h).elim
 |n+1=>by
  have j:=dX6 T T2 B d_without_names d_meets n;exact gQl T B (eQ5 T2 B (d_without_names.mono (Nat.le_add_right _ _)) (d_meets.mono (Nat.le_add_right _ _)) j) (j.mono (Nat.le_succ _))
theorem bJx(T:Tx K mg "most_free" s_most_free)(B:Bs mg)(T_most_free_with:Tx K mg "most_free_with" s_most_free_with)(d_without_names:Df P w K mg base 1 "without_names" ["one", "row"] (spU K aQl))(d_meets:Df P w K mg base 1 "meets" ["one", "row"] (spU K aJ7)):Df P w K mg base 37 "most_free" ["things", "barred", "over"] (spU K aXb):=(dX6 T T_most_free_with B d_without_names d_meets 18).mono (by decide)
end
abbrev s_names_of_all:Stmt:=top 8
theorem sc_names_of_all:FnScope ["some"] ["some"] (aQ3 s_names_of_all):=fsc
section
variable{P:ax}{w:aK}{K:ar}{mg:Str->Option ab}{base:bb}{pt cc:Addr}
theorem bQz(T:Tx K mg "names_of_all" s_names_of_all)(B:Bs mg):Df P w K mg base 1 "names_of_all" ["some"] (spU K aXa):=by
 refine aZ9 T sc_names_of_all (λF=>F.binds λ_ _ _ _ _ _=>us1 λ_=>rfl) ?_ λf Y A outer s H E U=>⟨_,(aQ4 (aQb (aZc rfl B.tuple (aQ0 (aZ5 (b:=false) [0] [] rfl sc_names_of_all.nd (λ_ _ _=>aQg ..) (.own (.cap (i:=0) rfl (by decide +kernel) .nil)) (aQh rfl) (aZ0 (e_ix (dv 0) aQ8)) (cg_name) (λ_ _ _ _ _=>aQa (nd_ ["name", "some"]) rfl (iC rfl) (.inl fXn)) (λ_ _ _ _ _=>aQw ((aJ4 (fJl rfl B.all (aQ0 (aZ5 (oc:=none) (b:=false) [0] [] rfl (nd_ ["name", "some"]) (λ_ _ _=>aQg ..) (.own (.cap (i:=0) rfl (by decide +kernel) .nil)) (aQh rfl) (aZ0 (dv 1)) (cg_name) (λ_ _ _ _ _=>aQa (nd_ ["one", "name"]) rfl (a8 rfl) (.inr rfl)) (λ_ _ _ _ _=>aZ4) aQk (λ_ _ _ _ _ _=>aQj rfl (PD.o (e_in U (dv 1) (dv 0))))) aQ1))))) aQk (λ_ _ _ _ _ _=>aQj rfl (PD.o (dv 0)))) aQ1)))),?_⟩
 ·rintro ds S Q ⟨J,rfl,_⟩;rfl
 ·rintro ds S Q ⟨J,rfl,G,hl,h,q⟩
  match J,G with
  |t::z,_ =>
   refine⟨(t::z).map tupS,tupS t,rfl,aJe rfl,t.map D.str,rfl,aQm (λx O Q q=>⟨(t::z).map tupS,rfl,aZo (λo Z Q q=>in_e (E:=strE) (by decide) rfl q) (z9999 (by show 0+(t::z).length<=_;lia)) ⟨((t::z).map λo=>decide (x∈o)),?_,?_⟩⟩) (λx O _ Q q=>q) (z9999 (by show 0+t.length<=_;have:=h t ai;lia)) ⟨_,rfl,aQ7 q⟩⟩
   ·rw[bg];rfl
   ·show Q (((t::z).map λo=>decide (x∈o)).all id) S;rw[gv];exact q
end
abbrev s_core_of:Stmt:=top 7
theorem sc_core_of:FnScope ["some", "core", "left"] ["some"] (aQ3 s_core_of):=fsc
section
variable{P:ax}{w:aK}{K:ar}{mg:Str->Option ab}{base:bb}{pt cc:Addr}
theorem cJd(T:Tx K mg "core_of" s_core_of)(B:Bs mg)(d_names_of_all:Df P w K mg base 1 "names_of_all" ["some"] (spU K aXa))(d_without_names:Df P w K mg base 1 "without_names" ["one", "row"] (spU K aQl)):Df P w K mg base 2 "core_of" ["some"] (spU K bZw):=by
 refine aZ9 T sc_core_of (λF=>F.binds λ_ _ _ _ _ _=>us1 λ_=>rfl) ?_ λf cdv A outer s H E j=>⟨_,(aQ2 (aZy (PWD.pt (dJm (bXf j (bQ0 rfl B.len (aQ0 (dv 0) aQ1)) aQ8) (dZ0 (bXf j (eZe j rfl B.len rfl B.set (dv 0)) (bQ0 rfl B.len (aQ0 (dv 0) aQ1)))))) (aQ4 (aQb bZ9)) aQq)
  (aQ2 (aQd (i:=1) sc_core_of.nd rfl (iC rfl) (aQ5 d_names_of_all j rfl (aQ0 (dv 0) aQ1)))
  (aQ2 (aJp (i:=2) rfl (a8 rfl) (oc:=none) (b:=false) [0,1] [1] rfl sc_core_of.nd (λ_ _ _=>bJc _ _ _ _ _ _ _ _ _ _ _ _) (.own (.own (.cap (i:=1) rfl (by decide +kernel) .nil))) (aQh rfl) (aZ0 (dv 0)) (cg_name) (λ_ _ _ _ _=>aQa (nd_ ["one", "name", "core"]) rfl (a8 rfl) (.inr rfl)) (λ_ _ _ _ _=>aZ4) (cZs (cg_name) aQk) (λ_ _ _ _ _ _=>bX2 (m:=λacc=>emitOf _ acc _) rfl rfl rfl (λ_=>bJd _ _ _ _ _ _ _ _ _ _ _ _) (PID.o (aZ0 (aQ5 d_without_names j rfl (aQ0 (dv 0) (aQ0 (dv 2) aQ1))))) (aQa (nd_ ["one", "name", "core"]) rfl (a8 rfl) (.inr rfl)) (aZ4) (aQj rfl (PD.o (dv 1))) (λ_=>rfl) (λ_=>rfl) (λ_=>rfl) (λ_=>rfl) (λ_=>rfl)))
  (aQ4 (aQb (bXg (cJ1 j (eZe j rfl B.len rfl B.set (dv 2)) (bQ0 rfl B.len (aQ0 (dv 2) aQ1))) (dv 1) bZ9)))))),?_⟩
 ·rintro ds S Q ⟨ts,rfl,_⟩;rfl
 ·rintro ds S Q ⟨ts,rfl,hl,h,hlf,q⟩;have hlen:(ts.map tupS).length=ts.length:=ah ..;refine⟨_,rfl,_,rfl,ite2 (λc1=>?_) λc1=>?_⟩
  ·have h2:ts.length<2:=by have:=of_decide_eq_true c1;rw[hlen] at this;lia
   have e:coG ts=none:=by unfold coG;rw[if_pos (.inl h2)]
   rw[e] at q;exact aQ7 q
  ·have h2:¬ ts.length<2:=by simp at c1;lia
   refine .inl ⟨ts,rfl,by lia,λn Y=>⟨_,rfl,_,rfl,ite2 (λU=>?_) λU=>?_⟩⟩
   ·have c3:=of_decide_eq_true U;rw[hlen] at c3;have nd:¬ ts.Nodup:=λz=>by have:=Y.2.mpr z;lia
    have e:coG ts=none:=by unfold coG;rw[if_pos (.inr nd)]
    rw[e] at q;exact aQ7 q
   ·have c3:ts.length<=n:=by simp at U;exact U
    have nd:=Y.2.mp (by have:=Y.1;lia)
    have hne:ts≠[]:=by rintro rfl;simp at h2
    refine⟨ts,rfl,hne,hl,h,_,rfl,?_⟩;have O:∀i t,ts[i]?=some t->(ts.take (i+1)).flatMap (λo=>o.filter λd=>!decide (d∈naG ts))=(ts.take i).flatMap (λo=>o.filter λd=>!decide (d∈naG ts))++t.filter λd=>!decide (d∈naG ts):=λi t J=>by
     rw[cz,J,gC];congr 1
     simp
    have hle:=λi=>Nat.le_trans (aZe (cF i ts)).length_le hlf;refine aJ6 (λi acc S'=>S'=S/\acc=((ts.take i).flatMap (λo=>o.filter λd=>!decide (d∈naG ts))).map D.str) ⟨rfl,rfl⟩ ?_ ?_
    ·rintro i x acc S' N Z ⟨rfl,rfl⟩ hN;rw[aQ,bF] at Z;obtain⟨t,J,rfl⟩:=Z;refine⟨trivial,Str,inferInstance,strE,t,naG ts,tupS t,tupS (naG ts),rfl,by decide,.inl rfl,.inl rfl,by have:=h t (am J);lia,_,rfl,aZo (λx Z Q q=>q) ?_ ?_⟩
     ·have:=hle (i+1)
      rw[O i t J,au] at this;rw[ah];have e9:(wo t (naG ts)).length=(t.filter λd=>!decide (d∈naG ts)).length:=rfl;exact z9999 (by lia)
     ·refine hN _ _ ⟨rfl,?_⟩;rw[O i t J,bK];rfl
    ·rintro acc S' ⟨rfl,rfl⟩;rw[ah,cx];refine⟨trivial,.inr ⟨lfG ts,rfl,by lia,λn G=>⟨_,rfl,rfl,_,rfl,ite2 (λc4=>?_) λc4=>?_⟩⟩⟩
     ·have c5:n=(lfG ts).length:=by
       have:=of_decide_eq_true c4
       injection this with this
       rw[ah] at this;exact Int.ofNat_inj.mp this
      have e:coG ts=some (naG ts):=by unfold coG;rw[if_neg (by rintro(z|z);exact h2 z;exact z nd),if_pos (G.2.mp c5)]
      rw[e] at q;exact aQ7 q
     ·have c5:=λz=>c4 (decide_eq_true (by rw[ah];exact congrArg (λn:Nat=>D.int n) (G.2.mpr z)))
      have e:coG ts=none:=by unfold coG;rw[if_neg (by rintro(z|z);exact h2 z;exact z nd),if_neg c5]
      rw[e] at q;exact aQ7 q
end
abbrev s_flowers_of:Stmt:=top 19
theorem sc_flowers_of:FnScope ["sets", "many", "flowers", "size", "longer"] ["sets", "many"] (aQ3 s_flowers_of):=fsc
section
variable{P:ax}{w:aK}{K:ar}{mg:Str->Option ab}{base:bb}{pt cc:Addr}
theorem bXy(T:Tx K mg "flowers_of" s_flowers_of)(B:Bs mg)(d_choices_of:Df P w K mg base 9 "choices_of" ["things", "many"] (spU K aZ1))(d_core_of:Df P w K mg base 9 "core_of" ["some"] (spU K bZw)):Df P w K mg base 10 "flowers_of" ["sets", "many"] (spU K aJ8):=by
 refine aZ9 T sc_flowers_of (λF=>F.binds λ_ _ _ _ _ _=>us2 λ_ _=>rfl) ?_ λf cdv A outer s H E hr=>⟨_,(aQ2 (aZy (bXf hr (dv 1) aQ8) (aQ4 (aQb (bJo (b:=false) aQ1))) aQq)
  (aQ2 (aQd (i:=2) sc_flowers_of.nd rfl (a8 rfl) (aQ5 d_choices_of hr rfl (aQ0 (dv 0) (aQ0 aQ8 aQ1))))
  (aQ2 (aXj du rfl (bJq rfl B.range (aQ0 aQ8 (aQ0 (dv 1) aQ1))) (aQv (i:=3) sc_flowers_of.nd rfl (a8 rfl)) (aQ2 (aJp (i:=4) rfl (a8 rfl) (N':=["some", "one", "sets"]) (oc:=none) (b:=false) [0,1] [1] rfl sc_flowers_of.nd (λ_ _ _=>bJc _ _ _ _ _ _ _ _ _ _ _ _) (.own (.own (.cap (i:=0) rfl (by decide +kernel) .nil))) (aQh rfl) (aZ0 (dv 2)) (cg_name (i:=0)) (λ_ _ _ _ _=>aQa (i:=0) (nd_ ["some", "one", "sets"]) rfl (a8 rfl) (.inr rfl)) (λ_ _ _ _ _=>aZ4) (cZs (cg_name (i:=1)) aQk) (λ_ _ _ _ _ _=>bX2 (m:=λacc=>emitOf _ acc _) rfl rfl rfl (λ_=>bJd _ _ _ _ _ _ _ _ _ _ _ _) (by exact PID.o (aZ0 (dv 2))) (aQa (i:=1) (nd_ ["some", "one", "sets"]) rfl (a8 rfl) (.inr rfl)) (aQw (by exact(bXf hr (e_ix (dv 0) (dJi aQ8)) (dv 1)))) (aQj rfl (by exact PD.o (aZk (k:=false) (dv 0) (aX6 (aQ0 (dv 1) aQ1))))) (λ_=>rfl) (λ_=>rfl) (λ_=>rfl) (λ_=>rfl) (λ_=>rfl)))
  (aQ4 (aJp (i:=2) rfl (a8 rfl) (N':=["some"]) (oc:=none) (b:=false) [0] [] rfl sc_flowers_of.nd (λ_ _ _=>aQg ..) (.own .nil) (aQh rfl) (aZ0 (dv 4)) (cg_name (i:=0)) (λ_ _ _ _ _=>aQa (i:=0) (nd_ ["some"]) rfl (a8 rfl) (.inr rfl)) (λ_ _ _ _ _=>aQw ((cQq hr (aQ5 d_core_of hr rfl (aQ0 (dv 0) aQ1)) bZ9))) aQk (λ_ _ _ _ _ _=>aQj rfl (PD.o (dv 0)))))))
  (aQ4 (aQb (dv 2)))))),?_⟩
 ·rintro ds S Q ⟨ts,m,rfl,_⟩;rfl
 ·rintro ds S Q ⟨ts,m,rfl,m2,m6,hs,hl,he,q⟩;have big:∀n:Nat,n<=40000->n<=sizeLine:=λn h=>by rw[bH];lia
  have chL:=λk=>Nat.le_trans (bZt ts k) (Nat.pow_le_pow_right (by decide) hl)
  have c2:=ch_map tupS ts 2;refine⟨_,rfl,ite2 (λc=>absurd (of_decide_eq_true c) (by lia)) λc=>?_⟩
  refine⟨ts.map tupS,2,rfl,by decide,by rw[ah];lia,?_⟩
  have e0:(ch (ts.map tupS) 2).map D.tup=(flw HT.lexS [] (λs=>(coG s).isSome) ts 0).map flE.e:=by
   rw[c2,bg];rfl
  rw[e0];refine⟨⟨by decide,by decide,by lia,by lia⟩,?_⟩
  have e1:((m:Int)-2).toNat=m-2:=by lia
  rw[e1];refine aZt (λi Γ S'=>∃x3 x4:Option D,Γ=[some (.tup (ts.map tupS)),some (.int m),some (.lst ((flw HT.lexS [] (λs=>(coG s).isSome) ts i).map flE.e)),x3,x4]/\S'=S) ⟨none,none,rfl,rfl⟩ ?_ ?_
  ·rintro i x Γ S' N hx ⟨x3,x4,rfl,rfl⟩ hN;have hi:i<m-2:=by have:=(aH.mp hx).1;rwa [aJ5] at this
   have U:∀s∈flw HT.lexS [] (λs=>(coG s).isSome) ts i,s.length=i+2/\s.Sublist ts:=λs h=>by
    rw[dZx hs λt G=>(he t G).1] at h;exact⟨(mem_flO.mp h).1,(mem_flO.mp h).2.1⟩
   have J:∀j,((((flw HT.lexS [] (λs=>(coG s).isSome) ts i).take j).flatMap (ext HT.lexS [] ts))).length<=32768:=λj=>by
    refine Nat.le_trans ?_ (chL (i+3));rw[<- bZu (cQw hs) aZn (i+1)];exact(aZe ((cF j _).trans (dZq (cQw hs) aZn i))).length_le
   have efl:∀j s,(flw HT.lexS [] (λs=>(coG s).isSome) ts i)[j]?=some s->((flw HT.lexS [] (λs=>(coG s).isSome) ts i).take (j+1)).flatMap (ext HT.lexS [] ts)=((flw HT.lexS [] (λs=>(coG s).isSome) ts i).take j).flatMap (ext HT.lexS [] ts)++ext HT.lexS [] ts s:=λj s h=>by
    rw[cz,h,gC];simp
   refine⟨trivial,_,rfl,aJ6 (λj acc S2=>S2=S'/\acc=(((flw HT.lexS [] (λs=>(coG s).isSome) ts i).take j).flatMap (ext HT.lexS [] ts)).map flE.e) ⟨rfl,rfl⟩ ?_ ?_⟩
   ·rintro j y acc S2 N2 hy ⟨rfl,rfl⟩ hN2;rw[aQ,bF] at hy;obtain⟨s,Y,rfl⟩:=hy;obtain⟨O,hss⟩:=U s (am Y);have hne:s≠[]:=by rintro rfl;simp at O
    refine⟨trivial,_,rfl,aQm (p:=λo=>HT.lexS (s.getLastD []) o) (f:=λo=>flE.e (s++[o])) (λo ho Q q=>?_) (λo ho _ Q q=>?_) (big _ ?_) ?_⟩
    ·exact⟨_,_,rfl,(by rw[cQt,dZv hne []];rfl:atI (s.map tupS) (-1)=some (tupS (s.getLastD []))),s.getLastD [],o,rfl,rfl,_,rfl,q⟩
    ·refine⟨z9999 (by show 1<=9999;decide),z9999 (by show(s.map tupS).length+1<=9999;rw[ah];lia),?_⟩
     have e:flE.e (s++[o])=.tup (s.map tupS++[tupS o]):=by show D.tup ((s++[o]).map setE.e)=_;rw[bK];rfl
     rw[e] at q;exact q
    ·have h1:=J j;rw[ah];lia
    ·refine hN2 _ _ ⟨rfl,?_⟩;rw[efl j s Y,bK];unfold ext;rw[bg];rfl
   ·rintro acc S2 ⟨rfl,rfl⟩;rw[ah,cx];have hL:=J (flw HT.lexS [] (λs=>(coG s).isSome) ts i).length;rw[cx] at hL;refine⟨trivial,_,rfl,aQm (λs hsm Q q=>?_) (λs _ _ Q q=>q) (big _ (by show 0+_<=_;lia)) (hN _ _ ⟨_,_,rfl,rfl⟩)⟩
    obtain⟨s0,Z,hse⟩:=List.mem_flatMap.mp hsm;obtain⟨o,ho,rfl⟩:=aR.mp hse;have O:=(U s0 Z).1;have hel:∀t∈s0++[o],t.length<=12:=λt G=>by
     rcases aY.mp G with G|G
     ·exact(he t ((U s0 Z).2.subset G)).2
     ·rw[aJ.mp G];exact(he o (ao.mp ho).1).2
    have hll:(s0++[o]).length<=6:=by rw[au,O];show i+2+1<=6;lia
    refine⟨s0++[o],rfl,by lia,λt G=>by have:=hel t G;lia,Nat.le_trans (gQe hll hel) (by decide),?_⟩
    cases hc:coG (s0++[o]) with
    |none=>rw[hc] at q;exact⟨_,rfl,q⟩
    |some c=>rw[hc] at q;exact⟨_,rfl,q⟩
  ·rintro Γ S' ⟨x3,x4,rfl,rfl⟩;rw[aJ5,dZx hs λt G=>(he t G).1,show m-2+2=m by lia]
   exact⟨trivial,aQ7 q⟩
end
abbrev s_most_without:Stmt:=top 25
theorem sc_most_without:FnScope ["names", "k", "many", "sets", "most"] ["names", "k", "many"] (aQ3 s_most_without):=fsc
def aZh:SpD:=λds S Q=>∃n k m:Nat,ds=[.int n,.int k,.int m]/\n<=6/\k<=7/\¬ (n=6/\k=3)/\2<=m/\m<=6/\∀r,MfS (as n k) (flO (as n k) m) (-1) r->Q (.tup [.int (r.length:Nat),.tup (r.map tupS)]) S
section
variable{P:ax}{w:aK}{K:ar}{mg:Str->Option ab}{base:bb}{pt cc:Addr}
theorem bZ0(T:Tx K mg "most_without" s_most_without)(B:Bs mg)(LT:mg "LETTERS"=some (.str bXr tk))(d_choices_of:Df P w K mg base 37 "choices_of" ["things", "many"] (spU K aZ1))(d_most_free:Df P w K mg base 37 "most_free" ["things", "barred", "over"] (spU K aXb))(d_flowers_of:Df P w K mg base 37 "flowers_of" ["sets", "many"] (spU K aJ8)):Df P w K mg base 38 "most_without" ["names", "k", "many"] (spU K aZh):=by
 refine aZ9 T sc_most_without (λF=>F.binds λ_ _ _ _ _ _=>us3 λ_ _ _=>rfl) ?_ λf cdv A outer s H E O=>⟨_,(aQ2 (aQd (i:=3) sc_most_without.nd rfl (a8 rfl) (aZc rfl B.tuple (aQ0 (aQ5 d_choices_of O rfl (aQ0 (gQh rfl B.tuple (aQ0 (e_sl (b:=false) (eJw rfl LT) aJm (aJn (dv 0))) aQ1)) (aQ0 (dv 1) aQ1))) aQ1)))
  (aQ2 (aQd (i:=4) sc_most_without.nd rfl (a8 rfl) (aQ5 d_most_free O rfl (aQ0 (dv 3) (aQ0 (aQ5 d_flowers_of O rfl (aQ0 (dv 3) (aQ0 (dv 2) aQ1))) (aQ0 (dJi aQ8) aQ1)))))
  (aQ4 (aQb (aX6 (aQ0 (bQ0 rfl B.len (aQ0 (dv 4) aQ1)) (aQ0 (dv 4) aQ1))))))),?_⟩
 ·rintro ds S Q ⟨n,k,m,rfl,_⟩;rfl
 ·rintro ds S Q ⟨n,k,m,rfl,G,J,U,Z,Y,q⟩;have j:=eZi G J U;refine⟨_,rfl,by decide,?_⟩
  have lz:=gXh G;have ll:(cutS bXr none (some n)).length<=6:=by
   have:=congrArg dU lz
   rw[ah,ah,aW] at this;have h6:(lt6 n).length<=6:=by unfold lt6;rw[aP];exact Nat.min_le_right _ _
   show(cutS (bC "abcdefghijklmnopqrstuvwxyz") none (some n)).cps.size<=6;lia
  refine⟨by lia,?_⟩
  have h6:(lt6 n).length<=6:=by unfold lt6;rw[aP];exact Nat.min_le_right _ _
  refine⟨(lt6 n).map D.str,k,congrArg (λz:List D=>[D.tup z,.int k]) lz,by lia,by rw[ah];lia,_,rfl,?_⟩
  have e1:(Toy.ch ((lt6 n).map D.str) k).map D.tup=(as n k).map tupS:=by rw[Toy.ch_map,bg];rfl
  rw[e1];have hs:=cXd G J;refine⟨as n k,m,rfl,Z,Y,hs,j,λt ht=>⟨(bQx G J t ht).1,by have:=(bQx G J t ht).2;lia⟩,?_⟩
  refine⟨_,inferInstance,setE,as n k,flO (as n k) m,-1,rfl,by decide,hs.nodup,by lia,by lia,fQi _ j Y,λb hb=>?_,fQe hs m Z,λo ho=>?_⟩
  ·have:=(Toy.ch_mem (ao.mp hb).1).1;lia
  cases o with
  |none=>exact absurd (ho [] (gy _) (fQf _ m (by lia))) (by decide)
  |some r =>
   refine⟨_,rfl,z9999 (by show 2<=9999;decide),?_⟩
   rw[ah];exact aQ7 (q r ho)
end
end Toy
set_option maxHeartbeats 4000000
namespace L2
open PySem Toy
end L2
set_option maxHeartbeats 1000000
namespace L2
open PySem Toy
end L2
set_option maxHeartbeats 4000000
namespace L2
open PySem Toy
section
variable{α:Type}[DecidableEq α](ok:List α->Bool)
variable{ok}
variable{lt:α->α->Bool}
variable(ok lt) in
end
end L2
namespace Toy
open PySem L2
end Toy
namespace L2
open PySem Toy
end L2
set_option maxHeartbeats 1000000
namespace L2
open PySem PySem.Spec PyProof.Rows
section
variable{prog:ax}{w:aK}{A:aU}{R:Result->ag->Prop}{s0:ag}{vs:List ab}{I S q:Addr}{fp:List Addr}{St:Nat->bb->Prop}{bt:Nat->Nat->Bool}{kw:List (Str×ab)}{Key:Addr->Nat->ab->bb->Prop}
theorem dX7(W:Walks prog w A.in1 I fp [I] vs.length (λi v=>vs[i]?=some v) St)(hI:s0.heap.objs.size<=I)(hIS:I<S)(hSf:S∉fp)
  (kk:∀i x h h',Key (S+1) i x h->Kp s0.heap h'->(∀b o,S+1<=b->h.get? b=some o->h'.get? b=some o)->Key (S+1) i x h')
  (turn:∀i v h tk,vs[i]?=some v->Kp s0.heap h->S+1<=h.objs.size->aE (aF prog w) A.in1 (call (.ref q) [v]) (λx s'=>∃h' tk',s'={s0 with heap:=h',toks:=tk'}/\Kp h h'/\Key (S+1) i x h') (λ_ _=>False) {s0 with heap:=h,toks:=tk})
  (cmp:∀i j vi vj h tk,Key (S+1) i vi h->Key (S+1) j vj h->Kp s0.heap h->HT.LtAt A.in1 {s0 with heap:=h,toks:=tk} vi vj (bt i j))
  (fin:∀v h tk,vs[fM bt (vs.length-1)]?=some v->Kp s0.heap h->R (.ok (.ret v)) {s0 with heap:=h,toks:=tk}) :
  ∀(left j:Nat) (h:bb) (tk:Nat) (vb xb:ab) (c:Nat),j+1+left=vs.length->Kp s0.heap h->St (j+1) h->vs[fM bt j]?=some vb->Key (S+1) (fM bt j) xb h->h.get? S=some (b8 "list" #[vb,xb] c) ->
   fx (aF prog w) A (.builtin "min.loop" ⟨[.ref I,.ref q,.ref S],kw⟩) R {s0 with heap:=h,toks:=tk}:=by
 have hSI:=Nat.ne_of_gt hIS;have nI:∀b o,s0.heap.get? b=some o->b≠I:=λb o e z=>absurd (aC e) (by rw[z];exact Nat.not_lt.mpr hI)
 have nS:∀b o,s0.heap.get? b=some o->b≠S:=λb o e z=>absurd (aC e) (by rw[z];exact Nat.not_lt.mpr (Nat.le_trans hI (Nat.le_of_lt hIS)))
 have word:(toString "min"++toString ".loop")="min.loop":=by decide
 intro left
 induction left with
 |zero =>
  intro j h tk vb xb c hj kp st Z ky hs;refine ci F.entry_min_loop ?_;rw[bJ F.plain_min_loop _];refine aa (dM hs rfl ?_);refine aa (fG (W.done {s0 with heap:=h,toks:=tk} _ _ ((hj)▸st) λh1 O k1=>?_))
  have G:=k1 S _ (by simpa using hSI) hs
  refine aa ?_;refine fQ G rfl (aa (jy (ad (fin vb _ O ?_ λb o e=>?_))))
  ·have e:vs.length-1=j:=by lia
   rw[e];exact Z
  ·exact(br _ _ (cE (nS b o e))).trans (k1 b o (by simpa using nI b o e) (kp b o e))
 |succ left ih =>
  intro j h tk vb xb c hj kp st Z ky hs;refine ci F.entry_min_loop ?_;rw[bJ F.plain_min_loop _];refine aa (dM hs rfl ?_);refine aa (fG (W.item (j+1) {s0 with heap:=h,toks:=tk} _ _ (by lia) st λv h1 O hv st1 k1=>?_))
  have G:=k1 S _ (by simpa using hSI) hs
  have U:Kp s0.heap h1:=λb o e=>k1 b o (by simpa using nI b o e) (kp b o e)
  have ky1:=kk _ _ _ _ ky U λb o Z e=>k1 b o (by simpa using (λz=>absurd Z (by rw[z];exact Nat.not_le.mpr (Nat.lt_succ_of_lt hIS)))) e
  refine aa (fG (bS (dw (turn (j+1) v h1 O hv U (aC G)) (λx s'' he=>?_) λ_ _ hF=>hF.elim)));obtain⟨h2,J,rfl,D,kx⟩:=he;have B:=U.trans D;have Y:=D _ _ G;have st2:=W.frame _ _ _ st1 λb _ o e=>D b o e;have ky2:=kk _ _ _ _ ky1 B λb o _ e=>D b o e;refine aa (fG (bS (aa (cmp (j+1) (fM bt j) x xb h2 J kx ky2 B _ _ _ _ ?_))));refine aa (bS (cU (aa (jy (ad ?_)))));cases e:bt (j+1) (fM bt j) with
  |true =>
   rw[if_pos rfl];refine aa ?_;refine fQ Y rfl (aa (jy ?_));rw[word];have hs3:=e8 Y λ_=>#[v,x];have kp4:Kp s0.heap (h2.update S (cf λ_=>#[v,x])):=λb o eo=>(br _ _ (cE (nS b o eo))).trans (B b o eo);refine ad ⟨dh F.plain_min_loop _,ih (j+1) _ J v x _ (by lia) kp4 (W.frame _ _ _ st2 λb hb' o eo=>?_) ?_ ?_ hs3⟩
   ·exact(br _ _ (λz:S=b=>hSf (by rw[z];exact hb'))).trans eo
   ·simp only[fM,e,if_true];exact hv
   ·simp only[fM,e,if_true];exact kk _ _ _ _ kx kp4 λb o Z e=>(br _ _ (Nat.ne_of_lt Z)).trans e
  |false =>
   rw[if_neg (by simp)]
   refine aa (jy ?_);rw[word];refine ad ⟨dh F.plain_min_loop _,ih (j+1) h2 J vb xb c (by lia) B st2 ?_ ?_ Y⟩
   ·simp only[fM,e,aM,if_false];exact Z
   ·simp only[fM,e,aM,if_false];exact ky2
theorem dX8{E:ab->ag->Prop}{x d:ab}{Q:ab->ag->Prop}{s:ag}(hd:vs=[]->∀h tk,Kp s.heap h->Q d {s with heap:=h,toks:=tk})
  (it:∀R':ab->ag->Prop,(∀I h fp St,s.heap.objs.size<=I->I∈fp->(∀b∈fp,b<h.objs.size)->Kp s.heap h->St 0 h->Walks prog w A.in1 I fp [I] vs.length (λi v=>vs[i]?=some v) St->R' (.ref I) {s with heap:=h})->aE (aF prog w) A.in1 (iu x) R' E s)
  (kk:∀m i x h h',Key m i x h->Kp s.heap h'->(∀b o,m<=b->h.get? b=some o->h'.get? b=some o)->Key m i x h')
  (turn:∀m i v h tk,vs[i]?=some v->Kp s.heap h->m<=h.objs.size->aE (aF prog w) A.in1 (call (.ref q) [v]) (λx s'=>∃h' tk',s'={s with heap:=h',toks:=tk'}/\Kp h h'/\Key m i x h') (λ_ _=>False) {s with heap:=h,toks:=tk})
  (cmp:∀m i j vi vj h tk,Key m i vi h->Key m j vj h->Kp s.heap h->HT.LtAt A.in1 {s with heap:=h,toks:=tk} vi vj (bt i j))
  (fin:∀v h tk,vs[fM bt (vs.length-1)]?=some v->Kp s.heap h->Q v {s with heap:=h,toks:=tk}) :
  aE (aF prog w) A (call (.builtin "min") [x] [(bC "key",.ref q),(bC "default",d)]) Q E s:=by
 have word:(toString "min"++toString ".loop")="min.loop":=by decide
 have args:argsOk "min" ⟨[x],[(bC "key",.ref q),(bC "default",d)]⟩:=by kernel_rfl
 refine kmk_tree F.kind_min F.plain_min F.entry_min args ?_;have bp:iU "min" ["key", "default"] 0 ⟨[],[(bC "key",.ref q),(bC "default",d)]⟩=pure [some (.ref q),some d]:=rfl;refine aa (ju bp ?_);refine aa (ad ?_);refine aa (it _ λI h fp St hI hIf hfp kp st W=>aa (bi ?_));rw[word];have hSf:=λz=>Nat.lt_irrefl _ (hfp _ z);have J:=hfp I hIf;have hs1:(h.push (b8 "list" #[] 0)).get? h.objs.size=some (b8 "list" #[] 0):=aq _ rfl;have Z:Kp s.heap (h.push (b8 "list" #[] 0)):=λb o e=>ae _ (kp b o e);have O:St 0 (h.push (b8 "list" #[] 0)):=W.frame _ _ _ st λb _ o e=>ae _ e;have hSI:=Nat.ne_of_gt J;have nI:∀b o,s.heap.get? b=some o->b≠I:=λb o e z=>absurd (aC e) (by rw[z];exact Nat.not_lt.mpr hI)
 have nS:∀b o,s.heap.get? b=some o->b≠h.objs.size:=λb o e z=>absurd (aC e) (by rw[z];exact Nat.not_lt.mpr (Nat.le_trans hI (Nat.le_of_lt J)))
 refine ad ⟨dh F.plain_min_loop _,ci F.entry_min_loop ?_⟩;rw[bJ F.plain_min_loop _];refine aa (dM hs1 rfl ?_);by_cases G:vs=[]
 ·refine aa (fG (W.done {s with heap:=h.push (b8 "list" #[] 0)} _ _ (by rw[G];exact O) λh1 B k1=>?_))
  exact aa (dA (ad (hd G h1 B λb o e=>k1 b o (by simpa using nI b o e) (Z b o e))))
 ·have hn:=dQ.mpr G;refine aa (fG (W.item 0 {s with heap:=h.push (b8 "list" #[] 0)} _ _ hn O λv h1 B hv st2 k1=>?_))
  have hs2:=k1 h.objs.size _ (by simpa using hSI) hs1
  have Y:Kp s.heap h1:=λb o e=>k1 b o (by simpa using nI b o e) (Z b o e)
  refine aa (fG (bS (dw (turn (h.objs.size+1) 0 v h1 B hv Y (aC hs2)) (λx s'' he=>?_) λ_ _ hF=>hF.elim)));obtain⟨h2,tk2,rfl,D,kx⟩:=he;have kp4:=Y.trans D;have hs3:=D _ _ hs2;have st3:=W.frame _ _ _ st2 λb _ o e=>D b o e;refine aa ?_;refine fQ hs3 rfl ?_;rw[word];have hs4:=e8 hs3 λ_=>#[v,x];have U:Kp s.heap (h2.update h.objs.size (cf λ_=>#[v,x])):=λb o e=>(br _ _ (cE (nS b o e))).trans (kp4 b o e);refine ad ⟨dh F.plain_min_loop _,dX7 W hI J hSf (kk _) (turn _) (cmp _) fin (vs.length-1) 0 _ tk2 v x _ (by lia) U (W.frame _ _ _ st3 λb hb' o eo=>?_) hv ?_ hs4⟩
  ·exact(br _ _ (λz:h.objs.size=b=>hSf (by rw[z];exact hb'))).trans eo
  ·exact kk _ _ _ _ _ kx U λb o hb e=>(br _ _ (Nat.ne_of_lt hb)).trans e
end
section
variable{prog:ax}{w:aK}{A:aU}{s:ag}{mg mb:Str->Option ab}{E:ab->ag->Prop}
abbrev keyB(p1 p2 p3 p4 p5 p6:Pos)(k:Nat):Expr:=.Tuple [.UnaryOp .USub (.Call (.Name "len" p1) [.Name "some" p2] [] p3) p4,.Name "some" p5] k p6
theorem eQ6(hk:env.scope.kind=.function)(h1:env.kindOf "some"=some .local)(h2:env.kindOf "len"=some .globalImplicit)
  (hg:s.heap.Ns env.globals mg) (hm:mg "len"=none) (hb:s.heap.Ns env.builtins mb) (hv:mb "len"=some (.builtin "len")) (hn:s.heap.Ns env.locals m) (hs:m "some"=some (.ref a)) (ht:gE s.heap a its) (hz:(its.size:Int)<2^63)
  (h:∀t tk,Q (.ref s.heap.objs.size) {s with heap:=s.heap.push {cls:=.type "tuple",data:=.seq #[.int (-its.size) t,.ref a]},toks:=tk}) :
  aE (aF prog w) A (eval (keyB p1 p2 p3 p4 p5 p6 k) env) Q E s:=by
 have z:cM p6 (aD [.UnaryOp .USub (.Call (.Name "len" p1) [.Name "some" p2] [] p3) p4,.Name "some" p5] env)=[(false,eval (.UnaryOp .USub (.Call (.Name "len" p1) [.Name "some" p2] [] p3) p4) env),(false,eval (.Name "some" p5) env)]:=by rfl
 refine wpAny_Tuple_spliced ?_;rw[z];refine d6 (wpAny_UnaryOp (fI (ga hk h2 (jA hg hm hb hv ?_))));refine iw ?_ (by rfl) (by rfl)
 have j:cM p3 (aD [.Name "some" p2] env)=[(false,eval (.Name "some" p2) env)]:=by rfl
 rw[j];refine d6 (gR (f9 hk h1 hn hs (fV ?_)));refine len_tuple ht hz (neg_int ?_);refine d6 (gR (f9 hk h1 hn hs (fV ?_)));exact⟨show 2<=sizeLine by decide,h _ _⟩
abbrev keyP(p:Pos):Arguments:={posonlyargs:=[],args:=[{arg:="some",annotation:=none,pos:=p}],vararg:=none,kwonlyargs:=[],kw_defaults:=[],kwarg:=none,defaults:=[]}
theorem eQ7(hk:scope.kind=.function)(hco:scope.isCoroutine=false)(hgen:scope.isGenerator=false)
  (h1:scope.names.lookup ("some":Str)=some .local) (h2:scope.names.lookup ("len":Str)=some .globalImplicit) (hcell:∀x∈scope.names,x.2≠.cell) (hroom:A.depth<gZ)
  (ho:s.heap.get? f=some (km "<lambda>" qual (keyP p0) (keyB p1 p2 p3 p4 p5 p6 k) scope [] pm c ctv)) (hcd:s.heap.CodeRec (.ref c) qual) (lim:s.heap.NoLimit) (hg:s.heap.Ns aX mg) (hm:mg "len"=none) (hb:s.heap.Ns ip mb) (hv:mb "len"=some (.builtin "len")) (ht:gE s.heap a its) (hz:(its.size:Int)<2^63) :
  aE (aF prog w) A (call (.ref f) [.ref a]) (λx s'=>∃h' tk',s'={s with heap:=h',toks:=tk'}/\Kp s.heap h'/\∃b t,x=.ref b/\s.heap.objs.size<=b/\gE h' b #[.int (-its.size) t,.ref a]) E s:=by
 refine wpAny_call (PySem.W.kla_callFunE hroom ho rfl hco hgen rfl hcd ?_);have j:bindArgs (PySem.W.kla_fn "<lambda>" qual (keyP p0) (keyB p1 p2 p3 p4 p5 p6 k) scope [] pm (.ref c) ctv) ⟨[.ref a],[]⟩=pure [(("some":Str),cY a)]:=by rfl
 rw[j];refine ad (wpAny_newFunctionEnv_cells hk (λx B=>?_) λenv he s1 x=>?_)
 ·rw[aJ.mp B];exact .inl h1
 subst he;obtain⟨h',tk',rfl,kp⟩:=x.done;refine⟨lim.keeps kp,PySem.W.kla_codeExpr ?_⟩;have D:=h1;refine eQ6 hk h1 h2 (hg.keeps kp) hm (hb.keeps kp) hv x.toInCall.ns ?_ (ht.keeps kp) hz λt z=>?_
 ·exact bindL_get (P:=["some"]) (vs:=[.ref a]) (i:=0) (by simp) rfl rfl h1
 ·refine⟨_,z,rfl,λb o e=>ae _ (kp b o e),_,t,rfl,?_,?_⟩
  ·exact Nat.le_of_lt x.toInCall.ns.lt
  ·exact⟨_,aq _ rfl,rfl,_,rfl⟩
end
structure TabF(base:bb)(mg:Str->Option ab)(c P:Addr):Prop where
 hd:PySem.W.CodeHd base c P
 bm:∃bm ob,mg "__builtins__"=some (.ref bm)/\bm≠ip/\base.get? bm=some ob/\ob.cls=.type "module"/\ob.dict=some ip/\ob.data=.plain
def Grow(P:Addr)(lp:Pos)(qual:Str)(ps:Array ab)(H H':Hp):Prop:=H'=H \/
 ∃c oc vs t,H c=none/\c≠P/\H'=upd (upd H P (.tbl (ps++#[er lp.line,er lp.col,.ref c]))) c (cdO c oc)/\oc.data=.fields vs/\vs[1]?=some (.str qual t)/\codeAmong lp ps.toList=none
def TbV(H:Hp)(lp:Pos)(qual:Str)(ps:Array ab):Prop:=TriplesOk ps.toList/\(codeAmong lp ps.toList=none\/∃c oc,codeAmong lp ps.toList=some (.ref c)/\H c=some (cdO c oc)/\∃vs t,oc.data=.fields vs/\vs[1]?=some (.str qual t))
section
variable{X:Cx}{pins:List (Addr×Obj)}{σ:St}{H:Hp}{s:ag}{E:ab->ag->Prop}
theorem eQ8(I:Inv X pins σ H s)(hP:H P=some (.tbl ps))(tb:TbV H lp qual ps)
  (hcode:X.env.code=.ref c) (T:TabF X.base X.mg c P) (hq:X.env.qual ++ "<lambda>"=qual) (hcl:i7 scope X.env=pure []) (hdef:defaultsOf params X.env=([],[]))
  (h:∀f c' pm ctv H' s',Inv X pins σ H' s'->Grow P lp qual ps H H'->s'.heap.get? f=some (km "<lambda>" qual params body scope [] pm c' ctv)->s'.heap.CodeRec (.ref c') qual->Q (.ref f) s') :
  aE (aF X.prog X.w) X.A (eval (.Lambda params body scope lp) X.env) Q E s:=by
 obtain⟨G,tb⟩:=tb;obtain⟨bm,ob,b1,b2,b3,b4,b5,b6⟩:=T.bm;have Z:=I.hok P _ hP;have nP:∀b o,X.base.get? b=some o->b≠P:=λb o e z=>by
  have:=(I.bs b o e).2
  rw[z,hP] at this;cases this
 have hgP:aX≠P:=by
  obtain⟨o,es,ep,e,_⟩:=I.mod.glob;exact nP _ _ e
 have hbG:bm≠aX:=λq=>by
  obtain⟨o,es,ep,e,hd,_⟩:=I.mod.glob;rw[q,e] at b3;cases b3;rw[hd] at b6;cases b6
 have BA:s.heap.BuiltinsAt X.mg P:=⟨bm,ob,b1,b2,hbG,nP _ _ b3,I.bk _ _ b3,b4,b5,b6⟩;refine PySem.W.kla_eval hdef ?_;rw[hq];rcases tb with hn|⟨c',oc,hf,hc,vs,t,d1,d2⟩
 ·refine PySem.W.kla_makeFunction hcl I.ok.glob (I.mod.glob.keeps I.bk) hcode (T.hd.keeps I.bk) Z G hn hgP BA λc' ctv h' tk hx U hlt O J=>?_;obtain⟨c2,oc,vs,t,e2,j,hd,hv⟩:=O;cases e2;have hfr:=I.hok.fresh U;have Y:c'≠P:=λz=>by rw[z,hP] at hfr;cases hfr
  have bP:∀b,H b=none->b≠P:=λb e z=>by rw[z,hP] at e;cases e
  have bc:∀b u,H b=some u->b≠c':=λb u e z=>by rw[z,hfr] at e;cases e
  have lc:∀b o,s.heap.get? b=some o->b≠c':=λb o e=>Nat.ne_of_lt (Nat.lt_of_lt_of_le (aC e) U);have kk:∀(fo:Obj) b o,b≠P->s.heap.get? b=some o->(h'.push fo).get? b=some o:=λfo b o n e=>ae _ (hx b o n e);refine h _ c' _ ctv (upd (upd H P (.tbl (ps++#[er lp.line,er lp.col,.ref c']))) c' (cdO c' oc)) _ (I.un ⟨?_,?_,?_,?_,?_,?_,?_⟩ ?_) (.inr ⟨c',oc,vs,t,hfr,Y,rfl,hd,hv,hn⟩) (aq _ rfl) ⟨c',oc,vs,t,rfl,ae _ j,hd,hv⟩
  ·exact λb o e n _ _=>kk _ b o (bP b n) e
  ·exact λb o e n _ _=>⟨o.slots,kk _ b o (bP b n) e⟩
  ·exact λb o e n _=>by rw[upd_ne (lc b o e),upd_ne (bP b n)];exact n
  ·intro b o e _
   by_cases z:b=P
   ·subst z;exact⟨_,ae _ J⟩
   ·exact⟨o,kk _ b o z e⟩
  ·intro b xs e;have z:b≠P:=λz=>by rw[z,hP] at e;cases e
   rw[upd_ne (bc b _ e),upd_ne z];exact e
  ·intro b o u e;have z:b≠P:=λz=>by rw[z,hP] at e;cases e
   rw[upd_ne (bc b _ e),upd_ne z];exact e
  ·intro b qs e
   by_cases z:b=P
   ·subst z;rw[hP] at e;cases e;exact⟨_,by rw[upd_ne (cE Y),aQ6]⟩
   ·exact⟨#[],by rw[upd_ne (bc b _ e),upd_ne z,e];simp⟩
  ·intro b u e
   by_cases z1:b=c'
   ·subst z1;rw[aQ6] at e;cases e;exact⟨ae _ j,⟨_,ae _ j⟩,λh1 h2 q k=>k _ q⟩
   ·rw[upd_ne z1] at e
    by_cases z2:b=P
    ·subst z2;rw[aQ6] at e;cases e;exact ae _ J
    ·rw[upd_ne z2] at e;refine(I.hok b u e).stay (λD o' hb' e'=>?_) (λD e'=>?_) (λD xs e'=>?_)
     ·refine kk _ D o' ?_ e';rcases hb' with z|z
      ·rw[z];exact z2
      ·intro B;rw[B,hP] at z;cases z
     ·have B:D≠P:=λB=>by rw[B,hP] at e';cases e'
      rw[upd_ne (bc D _ e'),upd_ne B];exact e'
     ·have B:D≠P:=λB=>by rw[B,hP] at e';cases e'
      rw[upd_ne (bc D _ e'),upd_ne B];exact e'
 ·refine PySem.W.kla_makeFunctionHit hcl I.ok.glob (I.mod.glob.keeps I.bk) hcode (T.hd.keeps I.bk) Z G hf BA λctv h' tk hk hsz=>?_;have k2:∀(fo:Obj) b o,s.heap.get? b=some o->(h'.push fo).get? b=some o:=λfo b o e=>ae _ (hk b o e);have j:=(I.hok c' _ hc).1;exact h _ c' _ ctv H _ (I.kept (k2 _)) (.inl rfl) (aq _ rfl) ⟨c',oc,vs,t,rfl,k2 _ _ _ j,d1,d2⟩
end
def KeyV(K:Fg)(H:Hp)(us:List V)(ln:Nat->Nat)(bt:Nat->Nat->Bool):Prop :=
 (∀(i:Nat) (x:V),us[i]?=some x->∃b vs,x=.ref b/\SqT K H b vs/\vs.length=ln i) /\
 ∀{X:Cx}{pins:List (Addr×Obj)}{σ:St}{s:ag},Inv X pins σ H s->X.K=K->∀A:aU,A.units+9<bN->∀i j x y u v t t',us[i]?=some x->us[j]?=some y->RelV x u->RelV y v ->
  HT.LexAt A s [.int (-(ln i:Int)) t,u] [.int (-(ln j:Int)) t',v] (bt i j)
section
variable{X:Cx}{K:Fg}{pos:Pos}{k:Nat}
theorem eQ9{σ:St}{Q:VK}
  (hk:scope.kind=.function) (hco:scope.isCoroutine=false) (hgen:scope.isGenerator=false)
  (h1:scope.names.lookup ("some":Str)=some .local) (h2:scope.names.lookup ("len":Str)=some .globalImplicit) (hcell:∀x∈scope.names,x.2≠.cell)
  (I:Inv X pins σ H s) (hK:X.K=K) (hu:X.A.units+20<bN) (hdp:X.A.depth<gZ) (hc:X.calm=true) (hm:X.mg "len"=none)
  (ho:s.heap.get? f=some (km "<lambda>" qual (keyP p0) (keyB p1 p2 p3 p4 p5 p6 k) scope [] pm c ctv)) (hcd:s.heap.CodeRec (.ref c) qual)
  (sq:SqL K H a us\/SqT K H a us) (cv:KeyV K H us ln bt) (ry:RelV y d) (hd:us=[]->Q y H) (q:∀v,us[fM bt (us.length-1)]?=some v->Q v H) :
  aE (aF X.prog X.w) X.A (call (.builtin "min") [.ref a] [(bC "key",.ref f),(bC "default",d)]) (λv s'=>∃x H',Inv X pins σ H' s'/\RelV x v/\Q x H') X.xe s:=by
 subst hK;have hh:X.A.in1.handled=none:=by simp[I.ok.hd hc]
 obtain⟨mb,m1,m2⟩:=I.mod.blt;have main:∀(its:List ab),Vals us its->(∀R':ab->ag->Prop,(∀I' h fp St,s.heap.objs.size<=I'->I'∈fp->(∀b∈fp,b<h.objs.size)->Kp s.heap h->St 0 h->Walks X.prog X.w X.A.in1 I' fp [I'] its.length (λi v=>its[i]?=some v) St->R' (.ref I') {s with heap:=h})->aE (aF X.prog X.w) X.A.in1 (iu (.ref a)) R' X.xe s) ->
   aE (aF X.prog X.w) X.A (call (.builtin "min") [.ref a] [(bC "key",.ref f),(bC "default",d)]) (λv s'=>∃x H',Inv X pins σ H' s'/\RelV x v/\Q x H') X.xe s:=by
  intro its G it;have hl:=G.length;have at_:∀i v,its[i]?=some v->∃x,us[i]?=some x/\RelV x v:=λi v hi=>by
   have i1:i<its.length:=by
    rcases Nat.lt_or_ge i its.length with z|z
    ·exact z
    ·rw[cC z] at hi;cases hi
   obtain⟨u1,e1,r1⟩:=G.get (af (show i<us.length by lia))
   rw[hi] at e1;cases e1;exact⟨_,af (by lia),r1⟩
  refine dX8 (bt:=bt) (Key:=λm i x h=>∃b t v,x=.ref b/\m<=b/\its[i]?=some v/\gE h b #[.int (-(ln i)) t,v]) ?_ it ?_ ?_ ?_ λv h tk hv kp=>?_
  ·exact λz h tk kp=>⟨y,H,I.kept kp,ry,hd (by subst z;exact b7 (by simpa using hl))⟩
  ·rintro m i x h h' ⟨b,t,v,e,D,hi,o,eo,r⟩ kp kk;exact⟨b,t,v,e,D,hi,o,kk b o D eo,r⟩
  ·intro m i v h tk hi kp hmh;obtain⟨x,U,rx⟩:=at_ i v hi;obtain⟨b,vs,rfl,st,Z⟩:=cv.1 i x U;cases rx;obtain⟨ws,J,pl,hz⟩:=I.tuple st;have Y:ws.toArray.size=ln i:=by rw[<- Z,J.length];simp
   refine dw (eQ7 hk hco hgen h1 h2 hcell (hdp) (kp _ _ ho) ?_ (I.nolimit.keeps kp) ((I.mod.glob.keeps I.bk).keeps kp) hm ((m1.keeps I.bk).keeps kp) ((m2 _ (by decide)).trans cJy) (pl.keeps kp) ?_) (λx s' hh=>?_) λ_ _ z=>z
   ·obtain⟨c0,o0,vs0,t0,e0,g0,r0⟩:=hcd;exact⟨c0,o0,vs0,t0,e0,kp _ _ g0,r0⟩
   ·have:=J.length
    rw[Y,<- Z];have z2:=hz;have z3:sizeLine<2^62:=by decide
    lia
   ·obtain⟨h',tk',e,kp',b',t,ex,hb',O⟩:=hh;rw[Y] at O;exact⟨h',tk',e,kp',b',t,_,ex,Nat.le_trans hmh hb',hi,O⟩
  ·rintro m i j vi vj h tk ⟨b,t,v,rfl,_,hi,ti⟩ ⟨b',t',v',rfl,_,hj,tj⟩ kp;obtain⟨x,U,rx⟩:=at_ i v hi;obtain⟨x',hx',rx'⟩:=at_ j v' hj;exact HT.ltAt_tup ti tj (cv.2 (I.kept kp) rfl X.A.in1.in1 (by lia) i j x x' v v' t t' U hx' rx rx') (by lia)
  ·obtain⟨x,U,rx⟩:=at_ _ v hv;exact⟨_,H,I.kept kp,rx,q _ (by rw[hl];exact U)⟩
 rcases sq with sq|sq
 ·obtain⟨its,G,p,hz⟩:=I.list sq;refine main its G λR' h=>fY p.isList ?_;obtain⟨o,n,ho,_⟩:=id p;have B:=aC ho;have W:=Walks.list (prog:=X.prog) (w:=X.w) hh s.heap.objs.size a (Nat.ne_of_lt B) its.toArray;have e1:its.toArray.size=its.length:=by simp
  have e2:(λi v=>its.toArray[i]?=some v)=(λ(i:Nat) v=>its[i]?=some v):=by funext i v;simp
  rw[e1,e2] at W;exact h _ _ _ _ (Nat.le_refl _) (by simp) (λb D=>by
   rw[cB];rcases av.mp D with rfl|D
   ·exact Nat.lt_succ_self _
   ·rw[aJ.mp D];exact Nat.lt_succ_of_lt B) (λb o e=>ae _ e) ⟨⟨_,aq _ rfl,rfl,rfl⟩,p.isList.at λo e=>ae _ e⟩ W
 ·obtain⟨its,G,p,hz⟩:=I.tuple sq;refine main its G λR' h=>fK (p) ?_
  obtain⟨o,ho,_⟩:=id p;have B:=aC ho;have W:=Walks.tuple (prog:=X.prog) (w:=X.w) hh s.heap.objs.size a (Nat.ne_of_lt B) its.toArray;have e1:its.toArray.size=its.length:=by simp
  have e2:(λi v=>its.toArray[i]?=some v)=(λ(i:Nat) v=>its[i]?=some v):=by funext i v;simp
  rw[e1,e2] at W;exact h _ _ _ _ (Nat.le_refl _) (by simp) (λb D=>by
   rw[cB];rcases av.mp D with rfl|D
   ·exact Nat.lt_succ_self _
   ·rw[aJ.mp D];exact Nat.lt_succ_of_lt B) (λb o e=>ae _ e) ⟨⟨_,aq _ rfl,rfl,rfl⟩,(show s.heap.IsTuple a its.toArray from p).at λo e=>ae _ e⟩ W
def gXm(K:Fg)(P:Addr)(lp:Pos)(qual:Str)(te:TE)(j:Nat):TE:=fun σ H Q=>te σ H λx H1=>∃ps,H1 P=some (.tbl ps)/\TbV H1 lp qual ps/\∃y,σ[j]?=some (some y)/\∀H2,Grow P lp qual ps H1 H2 ->
 ∃a us ln bt,x=.ref a/\(SqL K H2 a us\/SqT K H2 a us)/\KeyV K H2 us ln bt/\(us=[]->Q y H2)/\∀v,us[fM bt (us.length-1)]?=some v->Q v H2
theorem fQm{e:Expr}{c P:Addr}{qual xd:Str}{scope:Scope}{p p0 p1 p2 p3 p4 p5 p6 lp kp kp2 pd:Pos}{kk j:Nat}{te:TE}(hr:Room k X.A)(hg:Gl X "min")(hm:X.mg "min"=none)(hml:X.mg "len"=none)
  (he:PE X e te) (hN:X.N[j]?=some xd) (hv:Vis X.env.scope xd) (hcode:X.env.code=.ref c) (T:TabF X.base X.mg c P) (hq:X.env.qual ++ "<lambda>"=qual)
  (hk:scope.kind=.function) (hco:scope.isCoroutine=false) (hgen:scope.isGenerator=false)
  (h1:scope.names.lookup ("some":Str)=some .local) (h2:scope.names.lookup ("len":Str)=some .globalImplicit) (hcell:∀x∈scope.names,x.2≠.cell) (hcl:i7 scope X.env=pure []) (hK:X.K=K:=by rfl) (hc:X.calm=true:=by rfl)
  (hd:(xd==("__debug__":Str))=false:=by decide) (hcd:(xd==("__classdict__":Str))=false:=by decide)
  (g1:cM pos (aD [e] X.env)=[(false,eval e X.env)]:=by rfl) (g2:(kB pos (iJ [⟨some "key",.Lambda (keyP p0) (keyB p1 p2 p3 p4 p5 p6 kk) scope lp,kp⟩,⟨some "default",.Name xd pd,kp2⟩] X.env)).filterMap (·.1)=[("key":Str),"default"]:=by rfl) :
  PE X (.Call (.Name "min" p) [e] [⟨some "key",.Lambda (keyP p0) (keyB p1 p2 p3 p4 p5 p6 kk) scope lp,kp⟩,⟨some "default",.Name xd pd,kp2⟩] pos) (gXm K P lp qual te j):=by
 intro pins s σ H Q I h;refine fI (ld_blt I hg hm (rfl) ?_ (by decide) (by decide))
 have h3:(cM pos (aD [e] X.env)).any (·.1)=false:=by rw[g1];rfl
 have h4:cM pos (aD [e] X.env)=(false,eval e X.env)::cM pos (aD [] X.env):=by rw[g1];rfl
 refine callWith_kw ?_ h4 h3 rfl rfl;rw[g1,g2];refine d6 (thn (he pins s σ H _ I h) λv s1 ⟨x,H1,I1,r1,ps,hP,tb,y,ey,Z⟩=>fV ?_);refine kws_cons (eQ8 I1 hP tb hcode T hq hcl rfl λf c' pm ctv H2 s2 G gr ho O=>?_);obtain⟨a,us,ln,bt,e1,sq,cv,Y,U⟩:=Z H2 gr;subst e1;cases r1;obtain⟨m,hn,hl⟩:=id G.loc;obtain⟨u,r,l⟩:=hl j xd y hN ey hv;have go:=eQ9 hk hco hgen h1 h2 hcell G hK (by have:=hr.un;lia) hr.depth hc hml ho O sq cv r Y U
 rcases l with⟨z,J⟩|⟨z,cc,D,B⟩
 ·exact kws_cons (gR (f9 G.ok.kind z hn J (kws_nil go)) hd)
 ·rcases z with z|z
  ·exact kws_cons (gR (wpAny_loadName_cell G.ok.kind z D B (kws_nil go)) hd)
  ·exact kws_cons (gR (wpAny_loadName_free G.ok.kind z D B (kws_nil go) hcd) hd)
end
section
variable{K:Fg}{F:Am}{S:Sto}{H H':Hp}{P:Addr}{lp:Pos}{qual:Str}{ps:Array ab}
theorem Rp.tb(r:Rp K F S H)(h:S P=some (.tb lp qual)):∃ps,H P=some (.tbl ps)/\TbV H lp qual ps:=by
 obtain⟨ps,e,h1,h2⟩:=r.obj P _ h;exact⟨ps,e,h1,h2.imp id λ⟨c,oc,z,_,j⟩=>⟨c,oc,z,j⟩⟩
theorem Grow.ext(g:Grow P lp qual ps H H')(r:Rp K F S H)(h:S P=some (.tb lp qual))(hP:H P=some (.tbl ps))(tr:TriplesOk ps.toList):Ext S H S H'/\Rp K F S H':=by
 rcases g with rfl|⟨c,oc,vs,t,B,D,rfl,U,O,J⟩
 ·exact⟨Ext.refl _ _,r⟩
 ·have ne:∀a o,H a=some o->a≠c:=λa o e z=>by rw[z,B] at e;cases e
  have x:Ext S H S (upd (upd H P (.tbl (ps++#[er lp.line,er lp.col,.ref c]))) c (cdO c oc)):=by
   refine⟨λa o h1 h2=>?_,λa ha=>?_,λa ha=>.inl ha⟩
   ·have z:a≠P:=λz=>by rw[z,h] at h1;cases h1
    rw[upd_ne (ne a o h2),upd_ne z];exact h2
   ·by_cases j:a=c
    ·rw[j,aQ6];exact λz=>by cases z
    ·rw[upd_ne j]
     by_cases G:a=P
     ·rw[G,aQ6];exact λz=>by cases z
     ·rw[upd_ne G];exact ha
  refine⟨x,λa o ha=>?_,λa ha=>?_⟩
  ·by_cases z:a=P
   ·subst z;rw[h] at ha;cases ha;refine⟨_,by rw[upd_ne (cE D),aQ6],?_,.inr ⟨c,oc,?_,?_,aQ6,vs,t,U,O⟩⟩
    ·simpa using TriplesOk_snoc _ _ _ _ tr
    ·simpa using codeAmong_snoc _ tr J
    ·rintro(z|z)
     ·exact z (r.sn B)
     ·obtain⟨⟨u,e,_⟩,_⟩:=r.frm c z;rw[B] at e;cases e
   ·have q:=r.obj a o ha;refine q.keep x.kp ?_;have j:a≠c:=λj=>by rw[j] at q;exact q.live B
    rw[upd_ne j,upd_ne z]
  ·obtain⟨⟨u,e,ct⟩,h2⟩:=r.frm a ha;have z:a≠P:=λz=>by rw[z,h] at h2;cases h2
   exact⟨⟨u,by rw[upd_ne (ne a u e),upd_ne z];exact e,ct⟩,h2⟩
end
def lnD:D->Nat
 |.tup xs=>xs.length
 |_=>0
def kyD(x:D):List D:=[.int (-(lnD x:Int)),x]
def ltK(x y:D):Bool:=lexN (ltN 8) (kyD x) (kyD y)
def okK(xs:List D):Prop:=(∀a∈xs,∃ys,a=.tup ys)/\∀a∈xs,∀b∈xs,okLs (okL 8) 8 (kyD a) (kyD b)=true
def bZc(b:D):List D->D
 |[]=>b
 |x::xs=>bZc (if ltK x b=true then x else b) xs
abbrev btK(xs:List D):Nat->Nat->Bool:=λi j=>ltK (xs.getD i .non) (xs.getD j .non)
theorem cJe(b:D)(xs:List D)(y:D):bZc b (xs++[y])=if ltK y (bZc b xs)=true then y else bZc b xs:=by
 induction xs generalizing b with
 |nil=>rfl
 |cons x xs j=>exact j _
theorem bJy(x:D)(xs:List D):∀m,m<=xs.length->(x::xs)[fM (btK (x::xs)) m]?=some (bZc x (xs.take m))
 |0,_=>rfl
 |m+1,hm=>by
  have j:=bJy x xs m (by lia)
  have G:(x::xs).getD (m+1) .non=xs[m]'(by lia):=by
   rw[aj,fD,af (by lia)];rfl
  have B:(x::xs).getD (fM (btK (x::xs)) m) .non=bZc x (xs.take m):=by
   rw[aj,j];rfl
  have z:xs.take (m+1)=xs.take m++[xs[m]'(by lia)]:=by rw[cz,af (by lia)];rfl
  rw[z,cJe];show(x::xs)[if ltK ((x::xs).getD (m+1) .non) ((x::xs).getD (fM (btK (x::xs)) m) .non)=true then m+1 else fM (btK (x::xs)) m]?=_
  rw[G,B]
  split
  ·rw[fD,af (by lia)]
  ·exact j
section
variable{X:Cx}{K:Fg}{pos:Pos}{k:Nat}
theorem fQn(l:RepL K M H ds us)(ok:okK ds):KeyV K H us (λi=>lnD (ds.getD i .non)) (btK ds):=by
 have gd:∀(i:Nat) d,ds[i]?=some d->ds.getD i .non=d:=λi d e=>by rw[aj,e];rfl
 refine⟨λi x Z=>?_,?_⟩
 ·obtain⟨d,z,rd⟩:=l.get' Z;obtain⟨ys,rfl⟩:=ok.1 d (am z);show ∃b vs,x=.ref b/\SqT K H b vs/\vs.length=lnD (ds.getD i .non);rw[gd i _ z];obtain⟨a,xs,e,t,Y⟩:=rd;exact⟨a,xs,e,t.sq,Y.length⟩
 ·intro X pins σ s I hK A hA i j x y u v t J hi hj U O;subst hK;obtain⟨d,z,rd⟩:=l.get' hi;obtain⟨e,G,re⟩:=l.get' hj;show HT.LexAt A s [.int (-(lnD (ds.getD i .non))) t,u] [.int (-(lnD (ds.getD j .non))) J,v] (ltK (ds.getD i .non) (ds.getD j .non));rw[gd i _ z,gd j _ G];refine cX6 (M:=M) (xs:=[.int (-(lnD d)),x]) (ys:=[.int (-(lnD e)),y]) (λp q r B o=>(eq3 I 8 (by lia) p q r B o).eq) (λp q r B o=>gXg I 8 (by lia) p q r B o) ?_ ?_ ?_ ?_ (ok.2 d (am z) e (am G))
  ·exact RepL.cons (by rfl) (RepL.cons rd RepL.nil)
  ·exact RepL.cons (by rfl) (RepL.cons re RepL.nil)
  ·exact .cons ⟨_,rfl⟩ (.cons U .nil)
  ·exact .cons ⟨_,rfl⟩ (.cons O .nil)
def fQo(y:D):List D->D
 |[]=>y
 |x::xs=>bZc x xs
def gXn(P:Addr)(lp:Pos)(qual:Str)(te:ED)(j:Nat):ED:=fun Γ S Q=>te Γ S λd S1=>S1 P=some (.tb lp qual)/\look Γ j λy=>∃xs,sqIs S1 d xs/\okK xs/\Q (fQo y xs) S1
theorem gQm{e:Expr}{c P:Addr}{qual xd:Str}{scope:Scope}{p p0 p1 p2 p3 p4 p5 p6 lp kp kp2 pd:Pos}{kk:Nat}(j:Nat){te:ED}(hr:Room k X.A)(hg:Gl X "min")(hm:X.mg "min"=none)(hml:X.mg "len"=none)(T:TabF X.base X.mg c P)
  (he:PD K X e te) (hN:X.N[j]?=some xd:=by rfl) (hv:Vis X.env.scope xd:=by first|exact a8 rfl|exact iC (a8 rfl)|exact iC (iC rfl)) (hcode:X.env.code=.ref c:=by rfl) (hq:X.env.qual ++ "<lambda>"=qual:=by rfl)
  (hk:scope.kind=.function:=by rfl) (hco:scope.isCoroutine=false:=by rfl) (hgen:scope.isGenerator=false:=by rfl)
  (h1:scope.names.lookup ("some":Str)=some .local:=by rfl) (h2:scope.names.lookup ("len":Str)=some .globalImplicit:=by rfl) (hcell:∀x∈scope.names,x.2≠.cell:=by decide) (hcl:i7 scope X.env=pure []:=by rfl) (hK:X.K=K:=by rfl) (hc:X.calm=true:=by rfl)
  (hd:(xd==("__debug__":Str))=false:=by decide) (hcd:(xd==("__classdict__":Str))=false:=by decide)
  (g1:cM pos (aD [e] X.env)=[(false,eval e X.env)]:=by rfl) (g2:(kB pos (iJ [⟨some "key",.Lambda (keyP p0) (keyB p1 p2 p3 p4 p5 p6 kk) scope lp,kp⟩,⟨some "default",.Name xd pd,kp2⟩] X.env)).filterMap (·.1)=[("key":Str),"default"]:=by rfl) :
  PD K X (.Call (.Name "min" p) [e] [⟨some "key",.Lambda (keyP p0) (keyB p1 p2 p3 p4 p5 p6 kk) scope lp,kp⟩,⟨some "default",.Name xd pd,kp2⟩] pos) (gXn P lp qual te j) :=
 .of (fQm hr hg hm hml he.o hN hv hcode T hq hk hco hgen h1 h2 hcell hcl hK hc hd hcd g1 g2) fun σ H Q z0=>z0.el λF S Γ QD r g q c =>
  ⟨F,S,Γ,_,r,g,q,λv d H1 S1 J O v1 z1=>by
   obtain⟨Y,q1⟩:=z1;obtain⟨ps,Z,tb⟩:=O.tb Y;obtain⟨y,yd,ey,ry,xs,hs,ok,U⟩:=(g.ext J).look q1;refine⟨ps,Z,tb,y,ey,λH2 gr=>?_⟩;obtain⟨D,G⟩:=gr.ext O Y Z tb.1;obtain⟨a,us,rfl,sq,B⟩:=hs.sq G (v1.ext D);have c2:=Cn.shift c (J.trans D);refine⟨a,us,_,_,rfl,sq,fQn B ok,λz=>?_,λv hv=>?_⟩
   ·subst z
    have:=b7 (by simpa using B.length.symm)
    subst this;exact c2.here G (ry.ext D) U
   ·cases xs with
    |nil =>
     subst B;cases hv
    |cons x xs =>
     have hl:=B.length;have e:us.length-1=xs.length:=by rw[hl];simp
     rw[e] at hv;obtain⟨d,ed,rd⟩:=B.get' hv;rw[bJy x xs xs.length (Nat.le_refl _),cx] at ed;cases ed;exact c2.here G rd U⟩
end
section
variable{P:ax}{w:aK}{K:ar}{mg:Str->Option ab}{base:bb}{k:Nat}
def bJz(K:ar)(mg:Str->Option ab)(x:Str)(c:Addr):Prop:=∀(f:Addr) (o:Obj) (fd:dE),mg x=some (.ref f)->K.lookup f=some o->o.data=.func fd->fd.code=.ref c
theorem gQn{st:Stmt}(T:Tx K mg x st)(C:bJz K mg x c)(S:FnScope N ps (aQ3 st))
  (b:∀{f:Addr}{fd:dE},Fun K x x st f fd->Binds K fd ps []) (len:∀ds S Q,sp ds S Q->ds.length=ps.length)
  (h:∀ (f:Addr) (A:aU) (outer:List Env) (s:ag) (H:Hp) (E:XK),Room k (A.deeper (i6 x (aQ3 st) s.heap.objs.size f (.ref c))) ->
   ∃t,PSsD K (cxOf CX0 P w K mg base N x (aQ3 st) f (.ref c) A outer s H E).nox (aZ6 st) t/\∀ds S Q,sp ds S Q->t (cJ5 Q) (aJv N ds) S):Df P w K mg base (k+1) x ps (spU K sp):=by
 obtain⟨f,fd,O,m⟩:=T.ex;refine⟨f,fd,?_,b O,O.kp,m⟩;obtain⟨oc,od,kV,doc,pm,an,J,ct,Y,rfl,lk,G⟩:=O.ex;obtain rfl:J=.ref c:=C f _ _ m lk rfl;refine fX4 lk G S (λvs H Q E B=>by obtain⟨F,S,ds,QD,r,l,j,c⟩:=B;rw[l.length];exact len ds S QD j) (λA outer s H vs Q E' Z B=>?_)
 obtain⟨F,S,ds,QD,r,l,j,c⟩:=B;obtain⟨t,h1,h2⟩:=h f A outer s H E' Z;have fin:∀v d H' S',Ext S H S' H'->Rp K F S' H'->RepV K (mt S' F) H' d v->rtD QD d S'->Q v H':=λv d H' S' D z v1 U=>by
  obtain⟨d',S2,hs,fz,q⟩:=U;exact c v d' H' S2 (D.trans (Ext.less hs)) (z.less hs) ((dZf z hs fz).1 v v1) q
 exact⟨_,h1.o.nox,F,S,aJv N ds,cJ5 QD,r,bXl l,h2 ds S QD j,fun Γ' S' σ' H' D z g1 q=>fin .non .non H' S' D z (by rfl) q,fin,λ_ _ _ _ _ _ _ q=>q.elim,λ_ _ _ _ _ _ _ q=>q.elim⟩
end
end L2
set_option maxHeartbeats 4000000
namespace L2
open PySem
theorem eZl(ht:Srt t)(hu:Srt u)(h1:x∈t)(h2:x∈u)(e:wt t x=wt u x):t=u:=ht.ext hu λn=>by
 have:=congrArg (λl=>n∈l) e
 have h:n∈wt t x↔n∈wt u x:=by rw[e]
 rw[mem_wt,mem_wt] at h
 by_cases j:n=x
 ·subst j;exact⟨λ_=>h2,λ_=>h1⟩
 ·exact⟨λz=>(h.mp ⟨z,j⟩).1,λz=>(h.mpr ⟨z,j⟩).1⟩
open Toy
end L2
set_option maxHeartbeats 1000000
namespace L2
open PySem Toy
section
variable(ok:Nat->Bool)(g:Nat->List Str)
def ars2:Nat->List (List Nat×List Str)
 |0=>[([],[])]
 |i+1=>if ok i=true then ars2 i++((ars2 i).filter λp=>((g i).filter λn=>decide (n∈p.2)).isEmpty).map λp=>(p.1++[i],p.2++g i) else ars2 i
theorem aX1:∀i p,p∈ars2 ok g i↔p.1.Sublist ((a4 i).filter ok)/\p.2=(p.1.map g).flatten/\Apr g p.1
 |0,p=>by
  unfold ars2;rw[aJ,List.range_zero,List.filter_nil,iD];constructor
  ·rintro rfl;exact⟨rfl,rfl,ff⟩
  ·rintro⟨h1,h2,_⟩;obtain⟨a,b⟩:=p;simp only at h1 h2;subst h1;rw[h2];rfl
 |i+1,p=>by
  have D:=aX1 i;unfold ars2
  by_cases hok:ok i=true
  ·rw[if_pos hok];have j:∀q:List Nat×List Str,q∈ars2 ok g i->((((g i).filter λn=>decide (n∈q.2)).isEmpty=true)↔∀a∈q.1,∀x∈g a,x∉g i):=λq G=>by
    rw[List.isEmpty_iff,dP,((D q).mp G).2.1];constructor
    ·intro h a B x Z Y;exact h x Y (decide_eq_true (fF.mpr ⟨g a,aR.mpr ⟨a,B,rfl⟩,Z⟩))
    ·intro h x Z hd;obtain⟨t,ht,U⟩:=fF.mp (of_decide_eq_true hd);obtain⟨a,B,rfl⟩:=aR.mp ht;exact h a B x U Z
   have ef:(a4 (i+1)).filter ok=(a4 i).filter ok++[i]:=by
    rw[iM,dD];simp[hok]
   rw[aY,aR,ef,List.sublist_append_iff];constructor
   ·rintro(h|⟨q,G,rfl⟩)
    ·obtain⟨h1,h2,z⟩:=(D p).mp h;exact⟨⟨p.1,[],by simp,h1,by simp⟩,h2,z⟩
    ·obtain⟨J,hq2⟩:=ao.mp G;obtain⟨h1,h2,z⟩:=(D q).mp J;refine⟨⟨q.1,[i],rfl,h1,fj _⟩,by simp[h2],?_⟩
     unfold Apr;rw[a9];exact⟨z,bj _ _,λa B b hb=>by rw[aJ.mp hb];exact(j q J).mp hq2 a B⟩
   ·rintro⟨⟨O,r2,e,s1,s2⟩,h2,z⟩;have two:r2=[]\/r2=[i]:=by
     cases s2 with
     |cons _ h=>left;exact iD.mp h
     |cons_cons _ h=>right;rw[iD.mp h]
    rcases two with rfl|rfl
    ·rw[ce] at e;exact .inl ((D p).mpr ⟨by rw[e];exact s1,h2,z⟩)
    ·right
     unfold Apr at z;rw[e,a9] at z;have G:(O,(O.map g).flatten)∈ars2 ok g i:=(D _).mpr ⟨s1,rfl,z.1⟩;refine⟨(O,(O.map g).flatten),ao.mpr ⟨G,(j _ G).mpr λa B=>z.2.2 a B i (by simp)⟩,?_⟩
     obtain⟨a,b⟩:=p;simp only at e h2;rw[h2,e];simp
  ·rw[if_neg hok,D];have ef:(a4 (i+1)).filter ok=(a4 i).filter ok:=by
    rw[iM,dD];simp[hok]
   rw[ef]
end
abbrev lft(core t:List Str):List Str:=t.filter λn=>!decide (n∈core)
abbrev gT(ts:List (List Str)):Nat->List Str:=λi=>ts.getD i []
abbrev okC(ts:List (List Str))(core:List Str):Nat->Bool:=λi=>has (gT ts i) core
abbrev arC(ts:List (List Str))(core:List Str)(i:Nat):List (List Nat×List Str):=ars2 (okC ts core) (λi=>lft core (gT ts i)) i
def lbs(ts:List (List Str))(core:List Str):List Nat:=bst [] (((arC ts core ts.length).map (·.1)).filter λr=>decide (1<r.length))
theorem gQo(ts:List (List Str))(core:List Str):∀i∈lbs ts core,i<ts.length:=λi hi=>by
 unfold lbs at hi;rcases av.mp (bQw (((arC ts core ts.length).map (·.1)).filter λr=>decide (1<r.length)) []).1 with z|z
 ·rw[z] at hi;cases hi
 ·obtain⟨p,j,e⟩:=aR.mp (ao.mp z).1;rw[<- e] at hi;exact bf.mp (ao.mp (((aX1 _ _ _ _).mp j).1.subset hi)).1
theorem aXc(ha:Srt a)(hc:Srt core)(h1:has a core=true)(h2:has b core=true):(a.filter λx=>decide (x∈b))=core↔∀x∈lft core a,x∉lft core b:=by
 rw[has_iff] at h1 h2;constructor
 ·intro h x j D;simp only[lft,ao,dg,decide_eq_false_iff_not] at j D;exact j.2 (by rw[<- h];exact ao.mpr ⟨j.1,decide_eq_true D.1⟩)
 ·intro h;refine Srt.ext (cw _ ha) hc λn=>?_;rw[ao,decide_eq_true_iff];constructor
  ·rintro⟨J,G⟩;refine aI λz=>h n (ao.mpr ⟨J,by simp[z]⟩) (ao.mpr ⟨G,by simp[z]⟩)
  ·exact λB=>⟨h1 n B,h2 n B⟩
theorem bZ1(ts:List (List Str)):ts=(a4 ts.length).map (gT ts):=by
 apply jV (by simp)
 intro i h1 h2;simp[gT,aj,af h1]
theorem dX9(hs:SrtT ts)(he:∀t∈ts,Srt t)(hc:Srt core)(h:MfS (hav ts core) (mtg (hav ts core) core) (-1) r)(h2:2<=r.length):r=(lbs ts core).map (gT ts)/\lbs ts core≠[]/\∀i∈lbs ts core,i<ts.length:=by
 have eI:hav ts core=((a4 ts.length).filter (okC ts core)).map (gT ts):=by
  have:hav ts core=((a4 ts.length).map (gT ts)).filter λt=>has t core:=by rw[<- bZ1];rfl
  rw[this,gQ];rfl
 have nd:(hav ts core).Nodup:=hs.nodup.filter _;have D:∀t∈hav ts core,Srt t:=λt ht=>he t (ao.mp ht).1;have j:∀t∈hav ts core,has t core=true:=λt ht=>(ao.mp ht).2;generalize hI:(a4 ts.length).filter (okC ts core)=idx at eI;have eC:=λk=>(congrArg (λz=>ch z k) eI).trans (ch_map _ _ _);unfold lbs;obtain⟨hb1,hb2⟩:=bQw (((arC ts core ts.length).map (·.1)).filter λr=>decide (1<r.length)) [];generalize bst [] (((arC ts core ts.length).map (·.1)).filter λr=>decide (1<r.length))=B at hb1 hb2;have U:∀row:List Nat,row∈((arC ts core ts.length).map (·.1)).filter (λr=>decide (1<r.length))↔row.Sublist idx/\Apr (λi=>lft core (gT ts i)) row/\1<row.length:=λrow=>by
  rw[ao,aR,decide_eq_true_iff];constructor
  ·rintro⟨⟨p,Z,rfl⟩,hl⟩;obtain⟨h1,_,h3⟩:=(aX1 _ _ _ _).mp Z;rw[hI] at h1;exact⟨h1,h3,hl⟩
  ·rintro⟨h1,h3,hl⟩;exact⟨⟨(row,(row.map λi=>lft core (gT ts i)).flatten),(aX1 _ _ _ _).mpr ⟨by rw[hI];exact h1,rfl,h3⟩,rfl⟩,hl⟩
 have free:∀row:List Nat,row.Sublist idx->(aZf (mtg (hav ts core) core) (row.map (gT ts))↔Apr (λi=>lft core (gT ts i)) row):=λrow hr=>by
  have Y:(row.map (gT ts)).Sublist (hav ts core):=by rw[eI];exact hr.map _
  rw[cXb D nd Y];rw[cV];have mem:∀a∈row,gT ts a∈hav ts core:=λa O=>Y.subset (List.mem_map_of_mem O);constructor
  ·intro Z;refine(ku.mp Z).imp λ{a b} ⟨O,hb,J⟩=>?_;exact(aXc (D _ (mem a O)) hc (j _ (mem a O)) (j _ (mem b hb))).mp J
  ·intro Z;refine(ku.mp Z).imp λ{a b} ⟨O,hb,J⟩=>?_;exact(aXc (D _ (mem a O)) hc (j _ (mem a O)) (j _ (mem b hb))).mpr J
 have hf:=h.fst;rw[eC,gQ,List.head?_map,bF] at hf;obtain⟨row0,hr0,rfl⟩:=hf;rw[ah] at h2;have m0:=List.mem_of_head? hr0;obtain⟨m1,m2⟩:=ao.mp m0;obtain⟨l0,s0⟩:=ch_mem m1;have a0:=(free row0 s0).mp (frB_iff.mp m2);have nb:=hb2 row0 (ak _ ((U row0).mpr ⟨s0,a0,by lia⟩))
 have G:row0.length<=B.length:=by
  unfold bet at nb;refine aI λz=>?_;rw[if_neg (by lia)] at nb
  have:=of_decide_eq_false nb
  lia
 have hB:B∈((arC ts core ts.length).map (·.1)).filter (λr=>decide (1<r.length)):=by
  rcases av.mp hb1 with z|z
  ·rw[z] at G;simp at G;rw[G] at h2;simp at h2
  ·exact z
 obtain⟨sB,aB,_⟩:=(U B).mp hB;have fB:=(free B sB).mpr aB;have lB:B.length<=row0.length:=by
  have h1:(B.map (gT ts)).Sublist (hav ts core):=by rw[eI];exact sB.map _
  have:=h.most _ h1 fB
  rw[ah,ah] at this;exact this
 have hl:row0.length=B.length:=by lia
 unfold bet at nb;rw[if_pos hl] at nb;have srI:idx.Pairwise (λa b=>ltn a b=true):=by
  rw[<- hI];exact((List.pairwise_lt_range).imp λh=>decide_eq_true h).filter _
 have hltI:∀i∈idx,i<ts.length:=λi hi=>by
  rw[<- hI] at hi;exact bf.mp (ao.mp hi).1
 have:row0=B:=by
  refine aI λz=>?_;have mB:B∈(ch idx (row0.map (gT ts)).length).filter (frB (mtg (hav ts core) core)∘λs=>s.map (gT ts)):=by
   refine ao.mpr ⟨?_,frB_iff.mpr fB⟩;rw[ah,hl];exact aZp sB
  have srt:=(dZw (λa=>by simp) (row0.map (gT ts)).length srI).filter (frB (mtg (hav ts core) core)∘λs=>s.map (gT ts))
  cases e:(ch idx (row0.map (gT ts)).length).filter (frB (mtg (hav ts core) core)∘λs=>s.map (gT ts)) with
  |nil=>rw[e] at mB;cases mB
  |cons y ys =>
   rw[e] at mB srt hr0;cases hr0;rcases av.mp mB with q|q
   ·exact z q.symm
   ·have:=(aN.mp srt).1 B q
    rw[this] at nb;cases nb
 rw[this];refine⟨rfl,λz=>?_,λi hi=>hltI i (sB.subset hi)⟩;rw[z] at hl;rw[hl] at h2;simp at h2
theorem eQa(hs:SrtT ts){i j:Nat}(hi:i<ts.length)(hj:j<ts.length)(h:i<j):HT.lexS (gT ts i) (gT ts j)=true:=by
 have:=bT.mp hs i j hi hj h
 simp only[gT,aj,af hi,af hj];exact this
theorem gQp(hs:SrtT ts){i j:Nat}(hi:i<ts.length)(hj:j<ts.length)(h:gT ts i=gT ts j):i=j:=by
 rcases Nat.lt_trichotomy i j with z|z|z
 ·have:=eQa hs hi hj z;rw[h,aZn] at this;cases this
 ·exact z
 ·have:=eQa hs hj hi z;rw[h,aZn] at this;cases this
theorem cXe(hs:SrtT ts):∀{a b:List Nat},(∀i∈a,i<ts.length)->(∀i∈b,i<ts.length)->lexG HT.lexS (a.map (gT ts)) (b.map (gT ts))=lexG ltn a b
 |[],[],_,_=>rfl
 |[],_::_,_,_=>rfl
 |_::_,[],_,_=>rfl
 |x::a,y::b,G,D=>by
  have B:=G x (by simp)
  have j:=D y (by simp)
  show(if gT ts x=gT ts y then lexG HT.lexS (a.map (gT ts)) (b.map (gT ts)) else HT.lexS (gT ts x) (gT ts y))=if x=y then lexG ltn a b else ltn x y
  by_cases e:x=y
  ·subst e;rw[if_pos rfl,if_pos rfl];exact cXe hs (λi hi=>G i (ak _ hi)) λi hi=>D i (ak _ hi)
  ·rw[if_neg λz=>e (gQp hs B j z),if_neg e];rcases Nat.lt_or_gt_of_ne e with z|z
   ·rw[eQa hs B j z];exact(decide_eq_true z).symm
   ·have h1:=eQa hs j B z;have h2:=HT.lexS_as h1;rw[h2];exact(decide_eq_false (by lia)).symm
abbrev rowD(ts:List (List Str))(a:List Nat):D:=.tup ((a.map (gT ts)).map tupS)
theorem gQq(x y:List (List Str)):ltK (.tup (x.map tupS)) (.tup (y.map tupS))=if x.length=y.length then lexG HT.lexS x y else decide (y.length<x.length):=by
 have j:ltN 8 (.tup (x.map tupS)) (.tup (y.map tupS))=lexG setE.lt x y:=flE.lte 8 x y (by decide)
 rw[fQ9] at j;have J:lnD (.tup (x.map tupS))=x.length:=by show(x.map tupS).length=_;simp
 have G:lnD (.tup (y.map tupS))=y.length:=by show(y.map tupS).length=_;simp
 show(if D.int (-(lnD (.tup (x.map tupS))))=D.int (-(lnD (.tup (y.map tupS)))) then (if D.tup (x.map tupS)=D.tup (y.map tupS) then false else ltN 8 (.tup (x.map tupS)) (.tup (y.map tupS))) else ltN 8 (D.int (-(lnD (.tup (x.map tupS))))) (D.int (-(lnD (.tup (y.map tupS))))))=_
 rw[J,G,j]
 by_cases e:x.length=y.length
 ·rw[if_pos e,if_pos (by rw[e])]
  split
  ·next h =>
   have:=flE.inj h
   rw[this];have ir:∀l:List (List Str),lexG HT.lexS l l=false:=λl=>by
    induction l with
    |nil=>rfl
    |cons a l B=>unfold lexG;rw[if_pos rfl];exact B
   rw[ir]
  ·rfl
 ·rw[if_neg e,if_neg (λz=>e (by injection z with z;lia))]
  exact decide_eq_decide.mpr (by lia)
theorem eQb(hs:SrtT ts){a b:List Nat}(ha:∀i∈a,i<ts.length)(hb:∀i∈b,i<ts.length):ltK (rowD ts a) (rowD ts b)=bet a b:=by
 rw[gQq,ah,ah,cXe hs ha hb];rfl
theorem gQr(xs:List (List (List Str))):okK (xs.map λx=>D.tup (x.map tupS)):=by
 refine⟨λa z=>?_,λa z b J=>?_⟩
 ·obtain⟨x,_,rfl⟩:=aR.mp z;exact⟨_,rfl⟩
 ·obtain⟨x,_,rfl⟩:=aR.mp z;obtain⟨y,_,rfl⟩:=aR.mp J;have G:okL 8 (.tup (x.map tupS)) (.tup (y.map tupS))=true:=flE.okl 8 x y (by decide)
  have B:okE 8 (.tup (x.map tupS)) (.tup (y.map tupS))=true:=flE.ok 8 x y (by decide)
  show(okE 8 (D.int (-(lnD (.tup (x.map tupS))))) (D.int (-(lnD (.tup (y.map tupS)))))&&(if D.int (-(lnD (.tup (x.map tupS))))=D.int (-(lnD (.tup (y.map tupS)))) then (okE 8 (.tup (x.map tupS)) (.tup (y.map tupS))&&(if D.tup (x.map tupS)=D.tup (y.map tupS) then true else okL 8 (.tup (x.map tupS)) (.tup (y.map tupS)))) else okL 8 (D.int (-(lnD (.tup (x.map tupS))))) (D.int (-(lnD (.tup (y.map tupS)))))))=true
  rw[G,B];have h1:∀i j:Int,okE 8 (D.int i) (D.int j)=true:=λ_ _=>rfl;have h2:∀i j:Int,okL 8 (D.int i) (D.int j)=true:=λ_ _=>rfl;rw[h1,h2]
  split
  ·split <;> rfl
  ·rfl
theorem aJs(hs:SrtT ts):∀(l:List (List Nat)) (b:List Nat),(∀i∈b,i<ts.length)->(∀r∈l,∀i∈r,i<ts.length)->bZc (rowD ts b) (l.map (rowD ts))=rowD ts (bst b l)
 |[],_,_,_=>rfl
 |x::l,b,B,hl=>by
  have z:=hl x (by simp)
  show bZc (if ltK (rowD ts x) (rowD ts b)=true then rowD ts x else rowD ts b) (l.map (rowD ts))=rowD ts (bst (if bet x b=true then x else b) l)
  rw[eQb hs z B]
  by_cases c:bet x b=true
  ·rw[if_pos c,if_pos c];exact aJs hs l x z λr j=>hl r (ak _ j)
  ·rw[if_neg c,if_neg c];exact aJs hs l b B λr j=>hl r (ak _ j)
theorem bet_cons(x:Nat)(a:List Nat):bet (x::a) []=true:=by
 unfold bet;rw[if_neg (by simp)];simp
theorem cXf:∀xs:List α,2*(ch xs 2).length<=xs.length*(xs.length-1)
 |[]=>by simp[eZf]
 |x::xs=>by
  have j:=cXf xs;rw[aQi,au,ah,dZp,ah,az,Nat.add_sub_cancel];have e:(xs.length+1)*xs.length=xs.length*(xs.length-1)+2*xs.length:=by
   cases xs with
   |nil=>rfl
   |cons y ys=>simp only[az,Nat.add_sub_cancel];rw[Nat.mul_comm (ys.length+1) ys.length,<- Nat.add_mul]
  lia
def mets(ts:List (List Str)):List (List Str):=(ch ts 2).map mt2
theorem bXz(ts:List (List Str))(h:ts.length<=14):(mets ts).length<=91:=by
 have h1:=cXf ts;have h2:ts.length*(ts.length-1)<=14*13:=Nat.mul_le_mul h (by lia)
 unfold mets;rw[ah];lia
theorem cQ0(h:∀t∈ts,t.length<=n){c:List Str}(hc:c∈mets ts):c.length<=n:=by
 obtain⟨p,z,rfl⟩:=aR.mp hc;obtain⟨a,b,rfl,j⟩:=aZq z;exact Nat.le_trans (bB _ _) (h a (j.subset (by simp)))
theorem bZ2(hs:SrtT ts)(he:∀t∈ts,Srt t){core:List Str}(h:core∈mets ts):Srt core/\∀r,MfS (hav ts core) (mtg (hav ts core) core) (-1) r->2<=r.length:=by
 obtain⟨p,J,rfl⟩:=aR.mp h;obtain⟨a,b,rfl,j⟩:=aZq J;have U:=he a (j.subset (by simp))
 have Y:=he b (j.subset (by simp))
 refine⟨cw _ U,λr G=>?_⟩;have sub:[a,b].Sublist (hav ts (mt2 [a,b])):=by
  have h1:=j.filter λt=>has t (mt2 [a,b]);have e:[a,b].filter (λt=>has t (mt2 [a,b]))=[a,b]:=by
   rw[eK];intro t B;rw[has_iff];intro x D;have z:=ao.mp D;rcases av.mp B with rfl|B
   ·exact z.1
   ·rw[aJ.mp B];exact of_decide_eq_true z.2
  rw[e] at h1;exact h1
 have:=G.most [a,b] sub ((cXb (λt B=>he t (ao.mp B).1) (hs.nodup.filter _) sub).mpr (by
  refine aN.mpr ⟨λc O=>?_,bj _ _⟩;rw[aJ.mp O];rfl))
 exact this
def metL(ts:List (List Str)):Nat->List (List Str)
 |0=>[]
 |k+1=>metL ts k++(ts.take k).map λo=>(gT ts k).filter λx=>decide (x∈o)
theorem bJ0:∀n,x∈metL ts n↔∃k,k<n/\∃o∈ts.take k,x=(gT ts k).filter λy=>decide (y∈o)
 |0=>by simp[metL]
 |n+1=>by
  unfold metL;rw[aY,bJ0 n,aR];constructor
  ·rintro(⟨k,B,h⟩|⟨o,j,e⟩)
   ·exact⟨k,by lia,h⟩
   ·exact⟨n,by lia,o,j,e.symm⟩
  ·rintro⟨k,B,o,j,e⟩
   by_cases z:k=n
   ·subst z;exact .inr ⟨o,j,e.symm⟩
   ·exact .inl ⟨k,by lia,o,j,e⟩
theorem dXa:∀{ts:List (List Str)},[a,b].Sublist ts->∃k,k<ts.length/\gT ts k=b/\a∈ts.take k
 |[],h=>by cases h
 |x::xs,h=>by
  cases h with
  |cons _ h =>
   obtain⟨k,h1,h2,z⟩:=dXa h;exact⟨k+1,by rw[az];lia,h2,by rw[List.take_succ_cons];exact ak _ z⟩
  |cons_cons _ h =>
   obtain⟨k,j,e⟩:=bd (h.subset (by simp:b∈[b]))
   refine⟨k+1,by rw[az];lia,?_,by rw[List.take_succ_cons];exact ai⟩
   show xs.getD k []=b;rw[aj,af j,e];rfl
theorem dXb(he:∀t∈ts,Srt t)(x:List Str):x∈metL ts ts.length↔x∈mets ts:=by
 rw[bJ0];unfold mets;rw[aR];constructor
 ·rintro⟨k,z,o,D,rfl⟩;have G:gT ts k=ts[k]:=by show ts.getD k []=_;rw[aj,af z];rfl
  have sub:[o,gT ts k].Sublist ts:=by
   have h1:=fN.mpr D;have h2:[gT ts k].Sublist (ts.drop k):=fN.mpr (by rw[G,cj z];exact ai)
   have:=h1.append h2
   rwa [bA] at this
  refine⟨[o,gT ts k],aZp sub,?_⟩;exact aJ9 (he _ (sub.subset (by simp))) (he _ (sub.subset (by simp)))
 ·rintro⟨p,B,rfl⟩;obtain⟨a,b,rfl,j⟩:=aZq B;obtain⟨k,h1,h2,J⟩:=dXa j;refine⟨k,h1,a,J,?_⟩;rw[h2];exact aJ9 (he _ (j.subset (by simp))) (he _ (j.subset (by simp)))
theorem gQs(he:∀t∈ts,Srt t)(h:c∈mets ts):lbs ts c≠[]:=by
 obtain⟨k,G,o,Z,rfl⟩:=(bJ0 _).mp ((dXb he c).mpr h);obtain⟨i,hi,ei⟩:=bd Z;rw[aP] at hi;have hik:i<k:=by lia
 have J:i<ts.length:=by lia
 have go:gT ts i=o:=by
  show ts.getD i []=o;rw[aj,af J,<- ei,fW];rfl
 have Y:=he _ (by show ts.getD k []∈ts;rw[aj,af G];exact eS G)
 have U:=he _ (c6 Z);generalize D:((gT ts k).filter λy=>decide (y∈o))=c;have sc:Srt c:=by rw[<- D];exact cw _ Y
 have h1:has (gT ts k) c=true:=has_iff.mpr λx B=>by rw[<- D] at B;exact(ao.mp B).1
 have h2:has (gT ts i) c=true:=has_iff.mpr λx B=>by rw[<- D] at B;rw[go];exact of_decide_eq_true (ao.mp B).2
 have sub:[i,k].Sublist (a4 ts.length):=by
  have s1:[i].Sublist ((a4 ts.length).take k):=fN.mpr (by rw[List.take_range];exact bf.mpr (by lia))
  have s2:[k].Sublist ((a4 ts.length).drop k):=fN.mpr (by
   rw[cj (by rw[hX];exact G),jl];exact ai)
  have:=s1.append s2
  rwa [bA] at this
 have j:[i,k].Sublist ((a4 ts.length).filter (okC ts c)):=by
  have:=sub.filter (okC ts c)
  have e:[i,k].filter (okC ts c)=[i,k]:=by
   rw[eK];intro a O;rcases av.mp O with rfl|O
   ·exact h2
   ·rw[aJ.mp O];exact h1
  rwa [e] at this
 have ap:Apr (λi=>lft c (gT ts i)) [i,k]:=by
  refine aN.mpr ⟨λb hb=>?_,bj _ _⟩;rw[aJ.mp hb];refine(aXc (by rw[go];exact U) sc h2 h1).mp ?_
  rw[<- D,go];exact aJ9 U Y
 have mem:[i,k]∈[]::((ars2 (okC ts c) (λi=>lft c (gT ts i)) ts.length).map (·.1)).filter (λr=>decide (1<r.length)):=by
  refine ak _ (ao.mpr ⟨aR.mpr ⟨([i,k],([i,k].map λi=>lft c (gT ts i)).flatten),(aX1 _ _ _ _).mpr ⟨j,rfl,ap⟩,rfl⟩,by simp⟩)
 have:=(bQw _ []).2 _ mem
 intro z;unfold lbs at z;rw[z] at this;rw[bet_cons] at this;cases this
end L2
namespace L2
open PySem PySem.Spec PyProof.Rows
end L2
set_option maxHeartbeats 4000000
namespace Toy
open PySem L2
end Toy
set_option maxHeartbeats 1000000
namespace L2
open PySem Toy
theorem pair_sub{α:Type}:∀{l:List α},2<=l.length->∃a b,[a,b].Sublist l
 |[],h=>by simp at h
 |[x],h=>by simp at h
 |x::y::l,_=>⟨x,y,(gy l).cons_cons y |>.cons_cons x⟩
theorem dXc(ha:Srt a)(hb:Srt b):meG a b=meG b a:=Srt.ext (cw _ ha) (cw _ hb) λx=>by rw[mem_me,mem_me];exact And.comm
theorem eZm{α:Type}{l:List α}{R:α->α->Prop}(sy:∀a∈l,∀b∈l,R a b->R b a)(h:l.Pairwise R):∀a∈l,∀b∈l,a≠b->R a b:=λa D b B ne=>by
 obtain⟨i,hi,rfl⟩:=bd D;obtain⟨j,z,rfl⟩:=bd B;rcases Nat.lt_trichotomy i j with q|q|q
 ·exact bT.mp h i j hi z q
 ·subst q;exact absurd rfl ne
 ·exact sy _ B _ D (bT.mp h j i z hi q)
section
variable{ns ms:List Str}(hl:ms.length=ns.length)(nn:ns.Nodup)(nm:ms.Nodup)
include hl nm
include nn in
include nn in
end
end L2
set_option maxHeartbeats 4000000
namespace L2
open PySem
theorem fQp(xs:List D)(i:Nat):cutD xs none (some i)=xs.take i:=by
 show(xs.drop 0).take (HT.sIx xs.length xs.length (some i)-0)=_;rw[HT.sIx_nat,kD,Nat.sub_zero];rcases Nat.le_total i xs.length with h|h
 ·rw[Nat.min_eq_left h]
 ·rw[Nat.min_eq_right h,cx,bQ h]
end L2
set_option maxHeartbeats 1000000
namespace Toy
open PySem L2
def NF(m:Nat)(ts:List (List Str)):Prop:=∀s:List (List Str),s.Nodup->(∀x∈s,x∈ts)->s.length=m->¬ ∃c,∀a∈s,∀b∈s,a≠b->meG a b=c
def fac:Nat->Nat
 |0=>1
 |n+1=>(n+1)*fac n
theorem gQt{α:Type}{l:List α}(nd:l.Nodup)(h:2<=l.length):∃a b,a∈l/\b∈l/\a≠b:=by
 match l,h with
 |a::b::l,_=>exact⟨a,b,by simp,by simp,λe=>(bo.mp nd).1 (e▸ai)⟩
theorem dXd{α β:Type}{f:α->List β}:∀{l:List α},(∀x∈l,(f x).length<=n)->(l.flatMap f).length<=l.length*n
 |[],_=>Nat.zero_le _
 |x::l,h=>by
  rw[bq,au,az,Nat.succ_mul];have h1:=h x ai;have h2:=dXd λy j=>h y (ak _ j);lia
theorem NF.link(m2:2<=m)(nd:ts.Nodup)(es:∀t∈ts,Srt t)(h:NF m ts):NF m ((ts.filter λt=>decide (x∈t)).map λt=>wt t x):=by
 rintro s sn sub sl ⟨c,hc⟩;have j:∀t,t∈ts.filter (λt=>decide (x∈t)&&decide (wt t x∈s))↔t∈ts/\x∈t/\wt t x∈s:=λt=>by rw[ao];simp
 have U:(ts.filter λt=>decide (x∈t)&&decide (wt t x∈s)).Nodup:=nd.filter _;have inj:=λa z b B e=>by
  obtain⟨a1,a2,_⟩:=(j a).mp z;obtain⟨Z,O,_⟩:=(j b).mp B;exact eZl (es a a1) (es b Z) a2 O e
 have pm:=(eV (cV.mpr (bX (λ{a b} z B n e=>n (inj a z b B e)) U)) sn).mpr λy=>by
  rw[aR];constructor
  ·rintro⟨t,D,rfl⟩;exact((j t).mp D).2.2
  ·intro Y;obtain⟨t,D,rfl⟩:=aR.mp (sub y Y);obtain⟨t1,t2⟩:=ao.mp D;exact⟨t,(j t).mpr ⟨t1,of_decide_eq_true t2,Y⟩,rfl⟩
 have Sl:(ts.filter λt=>decide (x∈t)&&decide (wt t x∈s)).length=m:=by rw[<- sl,<- pm.length_eq,ah]
 have meet:∀a∈ts.filter (λt=>decide (x∈t)&&decide (wt t x∈s)),∀b∈ts.filter (λt=>decide (x∈t)&&decide (wt t x∈s)),a≠b->∀y,y∈meG a b↔y=x\/y∈c:=λa z b B n y=>by
  obtain⟨a1,a2,a3⟩:=(j a).mp z;obtain⟨Z,O,b3⟩:=(j b).mp B;rw[<- hc _ a3 _ b3 λe=>n (inj a z b B e),mem_me,mem_me,mem_wt,mem_wt];constructor
  ·rintro⟨h1,h2⟩
   by_cases e:y=x
   ·exact .inl e
   ·exact .inr ⟨⟨h1,e⟩,h2,e⟩
  ·rintro(rfl|⟨⟨h1,_⟩,h2,_⟩)
   ·exact⟨a2,O⟩
   ·exact⟨h1,h2⟩
 obtain⟨a0,b0,G,J,n0⟩:=gQt U (by lia)
 refine h _ U (λt D=>((j t).mp D).1) Sl ⟨meG a0 b0,λa z b B n=>?_⟩;exact Srt.ext ((es a ((j a).mp z).1).filter _) ((es a0 ((j a0).mp G).1).filter _) λy=>(meet a z b B n y).trans (meet a0 G b0 J n0 y).symm
theorem cQ1(m2:2<=m):∀(k:Nat) (ts:List (List Str)),ts.Nodup->(∀t∈ts,Srt t/\t.length=k)->NF m ts->ts.length<=fac k*(m-1)^k
 |0,ts,nd,he,_=>by
  have:ts.length<=[([])].length:=nd.length_le_of_subset λt j=>by rw[eG.mp (he t j).2];exact ai
  exact this
 |k+1,ts,nd,he,nf=>by
  have es:=λt j=>(he t j).1
  let P:=λn=>∃D:List (List Str),D.Nodup/\(∀d∈D,d∈ts)/\D.length=n/\D.Pairwise λa b=>meG a b=[]
  have p0:P 0:=⟨[],.nil,by simp,rfl,.nil⟩
  have pm:¬ P m:=λ⟨D,dn,ds,dl,dp⟩=>nf D dn ds dl ⟨[],eZm (λa ha b Z h=>by rw[<- h];exact dXc (es b (ds b Z)) (es a (ds a ha))) dp⟩
  obtain⟨n,hn,hP,hN⟩:∃n,n<m/\P n/\¬ P (n+1):=aI λw=>by
   have all:∀n,n<=m->P n:=λn=>by
    induction n with
    |zero=>exact λ_=>p0
    |succ n B=>exact λh=>aI λz=>w ⟨n,h,B (by lia),z⟩
   exact pm (all m (Nat.le_refl _))
  obtain⟨D,dn,ds,dl,dp⟩:=hP;have hit:∀t∈ts,∃x∈D.flatten,x∈t:=λt j=>aI λw=>by
   have off:∀d∈D,meG t d=[]:=λd hd=>List.eq_nil_iff_forall_not_mem.mpr λy J=>by
    obtain⟨h1,h2⟩:=mem_me.mp J;exact w ⟨y,fF.mpr ⟨d,hd,h2⟩,h1⟩
   have U:t∉D:=λhd=>by
    obtain⟨y,J⟩:=List.exists_mem_of_length_pos (by rw[(he t j).2];lia)
    exact w ⟨y,fF.mpr ⟨t,hd,J⟩,J⟩
   exact hN ⟨t::D,bo.mpr ⟨U,dn⟩,λd hd=>(av.mp hd).elim (λe=>e▸j) (ds d),by rw[az,dl],aN.mpr ⟨off,dp⟩⟩
  have fl:D.flatten.length=n*(k+1):=by
   have:∀l:List (List Str),(∀d∈l,d.length=k+1)->l.flatten.length=l.length*(k+1):=λl=>by
    induction l with
    |nil=>intro _;simp
    |cons a l B =>
     intro h;rw[jx,au,B λd hd=>h d (ak _ hd),h a ai,az,Nat.succ_mul];lia
   rw[this D λd hd=>(he d (ds d hd)).2,dl]
  have each:∀x∈D.flatten,(ts.filter λt=>decide (x∈t)).length<=fac k*(m-1)^k:=λx _=>by
   have B:=cQ1 m2 k ((ts.filter λt=>decide (x∈t)).map λt=>wt t x) (cV.mpr (bX (λ{a b} ha Z n e=>n (by
    obtain⟨a1,a2⟩:=ao.mp ha;obtain⟨b1,b2⟩:=ao.mp Z;exact eZl (es a a1) (es b b1) (of_decide_eq_true a2) (of_decide_eq_true b2) e)) (nd.filter _))) (λt j=>by
    obtain⟨o,ho,rfl⟩:=aR.mp j;obtain⟨G,O⟩:=ao.mp ho;have O:=of_decide_eq_true O;refine⟨(es o G).filter _,?_⟩;have pm:=(eV (es o G).nodup (bo.mpr ⟨λz=>(mem_wt.mp z).2 rfl,(es o G).nodup.filter _⟩)).mpr λy=>by
     rw[av,mem_wt];constructor
     ·intro h
      by_cases e:y=x
      ·exact .inl e
      ·exact .inr ⟨h,e⟩
     ·rintro(rfl|h)
      ·exact O
      ·exact h.1
    have:=pm.length_eq
    rw[(he o G).2,az] at this
    lia) (nf.link m2 nd es)
   rwa [ah] at B
  have h1:=nd.length_le_of_subset λt j=>by
   obtain⟨x,hx,Y⟩:=hit t j;exact List.mem_flatMap.mpr ⟨x,hx,ao.mpr ⟨j,decide_eq_true Y⟩⟩
  have h2:=dXd each;rw[fl] at h2;have h3:n*(k+1)*(fac k*(m-1)^k)<=(m-1)*(k+1)*(fac k*(m-1)^k):=Nat.mul_le_mul_right _ (Nat.mul_le_mul_right _ (by lia))
  have e:(m-1)*(k+1)*(fac k*(m-1)^k)=fac (k+1)*(m-1)^(k+1):=by
   show _=((k+1)*fac k)*(m-1)^(k+1);rw[Nat.pow_succ,Nat.mul_comm (m-1) (k+1),Nat.mul_assoc,Nat.mul_assoc,Nat.mul_left_comm (m-1),Nat.mul_comm ((m-1)^k) (m-1)]
  lia
abbrev s_enough_sets:Stmt:=top 27
theorem sc_enough_sets:FnScope ["k", "many", "number", "factor"] ["k", "many"] (aQ3 s_enough_sets):=fsc
def aXl:SpD:=λds S Q=>∃k m:Nat,ds=[.int k,.int m]/\k<=7/\2<=m/\m<=7/\Q (.int ((fac k*(m-1)^k:Nat):Int)) S
section
variable{P:ax}{w:aK}{K:ar}{mg:Str->Option ab}{base:bb}{pt cc:Addr}
theorem bZd(T:Tx K mg "enough_sets" s_enough_sets)(B:Bs mg):Df P w K mg base 1 "enough_sets" ["k", "many"] (spU K aXl):=by
 refine aZ9 T sc_enough_sets (λF=>F.binds λ_ _ _ _ _ _=>us2 λ_ _=>rfl) ?_ λf Z A outer s H E hr=>⟨_,(aQ2 (aQd (i:=2) sc_enough_sets.nd rfl (a8 rfl) aQ8)
  (aQ2 (aXj du rfl (bJq rfl B.range (aQ0 aQ8 (aQ0 (aZk (k:=false) (dv 0) aQ8) aQ1))) (aQv (i:=3) sc_enough_sets.nd rfl (a8 rfl)) (aQ4 (aQd (i:=2) sc_enough_sets.nd rfl (a8 rfl) (bXc (bXc (dv 2) (dv 3)) (eJ8 (dv 1) aQ8)))))
  (aQ4 (aQb (dv 2))))),?_⟩
 ·rintro ds S Q ⟨k,m,rfl,_⟩;rfl
 ·rintro ds S Q ⟨k,m,rfl,hk,m2,m7,q⟩;refine⟨⟨by decide,by decide,by lia,by lia⟩,?_⟩
  have U:((k:Int)+1-1).toNat=k:=by lia
  rw[U];refine aZt (λt Γ S'=>∃z:Option D,Γ=[some (.int k),some (.int m),some (.int ((fac t*(m-1)^t:Nat))),z]/\S'=S) ⟨none,rfl,rfl⟩ ?_ ?_
  ·rintro t x Γ S' N G ⟨z,rfl,rfl⟩ J;obtain⟨ht,rfl⟩:=bQ5 k 1 t x G;have e:((fac t*(m-1)^t:Nat):Int)*(1+t)*(m-1)=((fac (t+1)*(m-1)^(t+1):Nat)):=by
    have Y:(m:Int)-1=((m-1:Nat)):=by lia
    rw[Y,Nat.pow_succ];show _=(((t+1)*fac t*((m-1)^t*(m-1)):Nat):Int);simp only[Int.natCast_mul,gP];have O:1=1:=rfl;rw[O,Int.add_comm 1 t]
    ac_rfl
   refine⟨trivial,?_⟩;have h:=J _ S' ⟨some (.int (1+t)),rfl,rfl⟩;rw[<- e] at h;exact⟨.inr ⟨by lia,by lia⟩,.inr ⟨by lia,by lia⟩,h⟩
  ·rintro Γ S' ⟨z,rfl,rfl⟩;have el:(rngD 1 k).length=k:=by
    have:=congrArg dU (dX1 1 k)
    rwa [ah,List.length_range'] at this
   rw[el];exact⟨trivial,aQ7 q⟩
end
abbrev s_meet_of:Stmt:=top 3
theorem sc_meet_of:FnScope ["one", "other"] ["one", "other"] (aQ3 s_meet_of):=fsc
section
variable{P:ax}{w:aK}{K:ar}{mg:Str->Option ab}{base:bb}{pt cc:Addr}
theorem cJf(T:Tx K mg "meet_of" s_meet_of)(B:Bs mg):Df P w K mg base 1 "meet_of" ["one", "other"] (spU K aJr):=by
 refine aZ9 T sc_meet_of (λF=>F.binds λ_ _ _ _ _ _=>us2 λ_ _=>rfl) ?_ λf G A outer s H E z=>⟨_,(aQ4 (aQb (aZc rfl B.tuple (aQ0 (aZ5 (oc:=none) (b:=false) [0] [] rfl sc_meet_of.nd (λ_ _ _=>aQg ..) (.own (.cap (i:=1) rfl (by decide +kernel) .nil)) (aQh rfl) (aZ0 (dv 0)) (cg_name) (λ_ _ _ _ _=>aQa (nd_ ["name", "other"]) rfl (a8 rfl) (.inr rfl)) (λ_ _ _ _ _=>aQw ((gZy z (dv 0) (dv 1)))) aQk (λ_ _ _ _ _ _=>aQj rfl (PD.o (dv 0)))) aQ1)))),?_⟩
 ·rintro ds S Q ⟨one,row,rfl,_⟩;rfl
 ·rintro ds S Q ⟨one,row,rfl,hl,q⟩;exact⟨one.map D.str,rfl,aQm (λx j Q q=>in_t (E:=strE) (by decide) rfl q) (λx j _ Q q=>q) (z9999 (by show 0+one.length<=_;lia)) ⟨_,rfl,aQ7 q⟩⟩
end
abbrev s_cores_of_two:Stmt:=top 20
theorem sc_cores_of_two:FnScope ["sets"] ["sets"] (aQ3 s_cores_of_two):=fsc
def aZi:SpD:=λds S Q=>∃(ts:List (List Str)),ds=[.tup (ts.map tupS)]/\ts.length<=14/\(∀t∈ts,t.length<=12)/\∀out,SrtT out->(∀t,t∈out↔t∈mets ts)->Q (.lst (out.map tupS)) S
section
variable{P:ax}{w:aK}{K:ar}{mg:Str->Option ab}{base:bb}{pt cc:Addr}
theorem bZ3(T:Tx K mg "cores_of_two" s_cores_of_two)(B:Bs mg)(d_choices_of:Df P w K mg base 9 "choices_of" ["things", "many"] (spU K aZ1))(d_meet_of:Df P w K mg base 9 "meet_of" ["one", "other"] (spU K aJr)):Df P w K mg base 10 "cores_of_two" ["sets"] (spU K aZi):=by
 refine aZ9 T sc_cores_of_two (λF=>F.binds λ_ _ _ _ _ _=>us1 λ_=>rfl) ?_ λf cdv A outer s H E J=>⟨_,(aQ4 (aQb (fQ5 (oc:=none) (b:=false) [0,1] [] J rfl B.sorted rfl sc_cores_of_two.nd (λ_ _ _=>dZn ..) (.own (.own .nil)) (aQh rfl) (aZ0 (aQ5 d_choices_of J rfl (aQ0 (dv 0) (aQ0 aQ8 aQ1)))) (eJq) (λ_ _ _ _ _=>cZ5 rfl (aZw (aQa (nd_ ["one", "other"]) rfl (a8 rfl) (.inr rfl)) (aZw (aQa (nd_ ["one", "other"]) rfl (a8 rfl) (.inr rfl)) bZy))) (λ_ _ _ _ _=>aZ4) gQ9 (λ_ _ _ _ _ _=>(cX1 rfl (lt10 J) rfl rfl rfl (PD.o (aQ5 d_meet_of J rfl (aQ0 (dv 0) (aQ0 (dv 1) aQ1))))))))),?_⟩
 ·rintro ds S Q ⟨G,rfl,_⟩;rfl
 ·rintro ds S Q ⟨G,rfl,h14,he,q⟩;have ml:=bXz G h14;have ml2:(Toy.ch G 2).length<=91:=by rw[mets,ah] at ml;exact ml
  refine⟨G.map tupS,2,rfl,by decide,by rw[ah];lia,(Toy.ch G 2).map (λs=>D.tup (s.map tupS)),(by rw[Toy.ch_map,bg];rfl),?_⟩
  refine aJ6 (λi acc S'=>S'=S/\acc=(((Toy.ch G 2).take i).map mt2).map tupS) ⟨rfl,rfl⟩ ?_ ?_
  ·rintro i x acc S' N hx ⟨rfl,rfl⟩ hN;rw[aQ,bF] at hx;obtain⟨p,Y,rfl⟩:=hx;obtain⟨a,b,rfl,Z⟩:=aZq (am Y);have hi:=(aH.mp Y).1;have ha:=he a (Z.subset (by simp))
   refine⟨trivial,rfl,rfl,a,b,rfl,by lia,mt2 [a,b],rfl,?_,hN _ _ ⟨rfl,?_⟩⟩
   ·rw[ah,ah,aP];lia
   ·rw[cz,Y,bK,bK];rfl
  ·rintro acc S' ⟨rfl,rfl⟩;rw[ah,cx];refine⟨trivial,mets G,rfl,λout U z=>⟨?_,λO=>aQ7 (q out O z)⟩⟩
   have:=U.length_le_of_subset λt ht=>(z t).mp ht
   lia
end
abbrev s_has_all:Stmt:=top 1
theorem sc_has_all:FnScope ["one", "row"] ["one", "row"] (aQ3 s_has_all):=fsc
section
variable{P:ax}{w:aK}{K:ar}{mg:Str->Option ab}{base:bb}{pt cc:Addr}
theorem cJg(T:Tx K mg "has_all" s_has_all)(B:Bs mg):Df P w K mg base 1 "has_all" ["one", "row"] (spU K aJq):=by
 refine aZ9 T sc_has_all (λF=>F.binds λ_ _ _ _ _ _=>us2 λ_ _=>rfl) ?_ λf O A outer s H E G=>⟨_,(aQ4 (aQb (fJl rfl B.all (aQ0 (aZ5 (oc:=none) (b:=false) [0] [] rfl sc_has_all.nd (λ_ _ _=>aQg ..) (.own (.cap (i:=0) rfl (by decide +kernel) .nil)) (aQh rfl) (aZ0 (dv 1)) (cg_name) (λ_ _ _ _ _=>aQa (nd_ ["name", "one"]) rfl (a8 rfl) (.inr rfl)) (λ_ _ _ _ _=>aZ4) aQk (λ_ _ _ _ _ _=>aQj rfl (PD.o (e_in G (dv 0) (dv 1))))) aQ1)))),?_⟩
 ·rintro ds S Q ⟨α,dα,E,one,row,j,J,rfl,_⟩;rfl
 ·rintro ds S Q ⟨α,dα,E,one,row,j,J,rfl,U,h1,h2,hl,q⟩;have go:∀Q':List D->Sto->Prop,Q' (row.map λd=>D.bl (decide (d∈one))) S->aZd (aQx 0) dYes (bXi (dOp (inD false) (dVar 0) (dVar 1))) (λ_=>True) [none,some j] (row.map E.e) [] S Q':=λQ' z =>
   aZo (λd hd Q q=>in_e (by lia) h1.sq q) (z9999 (by show 0+row.length<=_;lia)) z
  have e:(row.map λd=>decide (d∈one)).all id=has one row:=by rw[gv];rfl
  rw[<- e] at q;rcases h2 with rfl|rfl
  ·exact⟨row.map E.e,rfl,go _ ⟨row.map λd=>decide (d∈one),by rw[bg];rfl,aQ7 q⟩⟩
  ·exact⟨row.map E.e,rfl,go _ ⟨row.map λd=>decide (d∈one),by rw[bg];rfl,aQ7 q⟩⟩
end
abbrev s_link_of:Stmt:=top 12
theorem sc_link_of:FnScope ["sets", "row"] ["sets", "row"] (aQ3 s_link_of):=fsc
theorem gQu{ts:List (List Str)}(nd:ts.Nodup)(hs:∀t∈ts,Srt t):((ts.filter λt=>has t row).map λt=>wo t row).Nodup:=by
 unfold List.Nodup;rw[cV];refine bX ?_ (nd.filter _);intro a b J D z e;obtain⟨J,G⟩:=ao.mp J;obtain⟨D,B⟩:=ao.mp D;refine z ((hs a J).ext (hs b D) λn=>?_)
 by_cases j:n∈row
 ·exact⟨λ_=>has_iff.mp B n j,λ_=>has_iff.mp G n j⟩
 ·have:=mem_wo (one:=a) (row:=row) (x:=n)
  rw[e,mem_wo] at this;exact⟨λh=>(this.mpr ⟨h,j⟩).1,λh=>(this.mp ⟨h,j⟩).1⟩
def bZx:SpD:=λds S Q=>∃(ts:List (List Str)) (row:List Str),ds=[.tup (ts.map tupS),tupS row]/\ts.length<=20/\row.length<=9999/\(∀t∈ts,t.length<=9999)/\Q (.tup ((lnk ts row).map tupS)) S
section
variable{P:ax}{w:aK}{K:ar}{mg:Str->Option ab}{base:bb}{pt cc:Addr}
theorem cJh(T:Tx K mg "link_of" s_link_of)(B:Bs mg)(d_has_all:Df P w K mg base 1 "has_all" ["one", "row"] (spU K aJq))(d_without_names:Df P w K mg base 1 "without_names" ["one", "row"] (spU K aQl)):Df P w K mg base 2 "link_of" ["sets", "row"] (spU K bZx):=by
 refine aZ9 T sc_link_of (λF=>F.binds λ_ _ _ _ _ _=>us2 λ_ _=>rfl) ?_ λf G A outer s H E j=>⟨_,(aQ4 (aQb (aZc rfl B.tuple (aQ0 (bXn (b:=false) j rfl B.sorted (aQ0 (aZ5 (oc:=none) (b:=false) [0] [] rfl sc_link_of.nd (λ_ _ _=>aQg ..) (.own (.cap (i:=1) rfl (by decide +kernel) .nil)) (aQh rfl) (aZ0 (dv 0)) (cg_name) (λ_ _ _ _ _=>aQa (nd_ ["one", "row"]) rfl (a8 rfl) (.inr rfl)) (λ_ _ _ _ _=>aQw ((aJ4 (aQ5 d_has_all j rfl (aQ0 (dv 0) (aQ0 (dv 1) aQ1)))))) aQk (λ_ _ _ _ _ _=>aQj rfl (PD.o (aQ5 d_without_names j rfl (aQ0 (dv 0) (aQ0 (dv 1) aQ1)))))) aQ1)) aQ1)))),?_⟩
 ·rintro ds S Q ⟨z,row,rfl,_⟩;rfl
 ·rintro ds S Q ⟨z,row,rfl,hl,j,he,q⟩;refine⟨_,rfl,aQm (λt D Q q=>⟨Str,inferInstance,strE,t,row,tupS t,tupS row,rfl,by decide,.inl rfl,.inl rfl,j,q⟩) (λt D _ Q q=>⟨Str,inferInstance,strE,t,row,tupS t,tupS row,rfl,by decide,.inl rfl,.inl rfl,he t D,q⟩) (z9999 (by show 0+z.length<=_;lia)) ?_⟩
  exact .inr (.inr ⟨(z.filter λt=>has t row).map λt=>wo t row,by rw[bW,bg];rfl,_,rfl,aQ7 q⟩)
end
end Toy
namespace L2
open PySem PySem.Spec PyProof.Rows
def EsAt(h:bb)(d:Addr)(es:Array DictEntry)(ep:Nat):Prop:=∃o,h.get? d=some o/\o.ExactDict/\o.data=.dict es ep
section
variable{prog:ax}{w:aK}{A:aU}{E:ab->ag->Prop}{s:ag}{d it:Addr}{es:Array DictEntry}{ep i:Nat}
theorem EsAt.ty(x:EsAt s.heap d es ep):s.TypeIs (.ref d) "dict":=by
 obtain⟨o,e,c,_⟩:=x;exact⟨o,e,c.1⟩
end
section
variable{κ β:Type}[DecidableEq κ]
def valX(kvs:List (κ×β))(k:κ):Option β:=(kvs.find? λkv=>decide (kv.1=k)).map (·.2)
def putX(kvs:List (κ×β))(k:κ)(v:β):List (κ×β):=if (kvs.any λkv=>decide (kv.1=k))=true then kvs.map (λkv=>if kv.1=k then (kv.1,v) else kv) else kvs++[(k,v)]
theorem eQc{r:List (κ×β)}{k:κ}(e:p.1=k):valX (p::r) k=some p.2:=by simp[valX,dq,e]
theorem eQd{r:List (κ×β)}{k:κ}(e:¬ p.1=k):valX (p::r) k=valX r k:=by simp[valX,dq,e]
end
structure KnD(P:ax)(w:aK)(K:Fg)(κ:Type)[DecidableEq κ] where
 knd:HeapKind P w κ
 enc:κ->D
 room:∀{A:aU},A.units+8<bN->knd.room A.in1
 key:∀{X:Cx}{pins:List (Addr×Obj)}{σ:St}{H:Hp}{s:ag}{M:Am}{k:κ}{b:Addr},X.prog=P->X.w=w->X.K=K->Inv X pins σ H s->RepV K M H (enc k) (.ref b)->knd.is s.heap k b
 ref:∀{M:Am}{H:Hp}{k:κ}{v:V},RepV K M H (enc k) v->∃b,v=.ref b
section
variable{P:ax}{w:aK}{K:Fg}{κ:Type}[DecidableEq κ]
abbrev KX(N:KnD P w K κ)(M:Am)(H:Hp)(p:κ×V)(q:κ×Addr×ab):Prop:=p.1=q.1/\RepV K M H (N.enc p.1) (.ref q.2.1)/\RelV p.2 q.2.2
def DxV(N:KnD P w K κ)(o:Obj)(M:Am)(H:Hp)(a:Addr)(kw:List (κ×V)):Prop:=∃es ep,∃xs:List (κ×Addr×ab),H a=some (cdO a o)/\o.ExactDict/\o.data=.dict es ep/\es.toList=xs.map (entryOfKey N.knd)/\(xs.map (·.1)).Nodup/\kw.length<=sizeLine/\(a==fk)=false/\aZ (KX N M H) kw xs
variable{N:KnD P w K κ}{M M':Am}{H H':Hp}{a:Addr}{o:Obj}{kw:List (κ×V)}
theorem DxV.keep(h:DxV N o M H a kw)(k:Keep M H M' H')(e:H' a=H a):DxV N o M' H' a kw:=by
 obtain⟨es,ep,xs,h1,h2,O,J,G,D,B,j⟩:=h;exact⟨es,ep,xs,e.trans h1,h2,O,J,G,D,B,Paired.imp (λ_ _ z=>⟨z.1,z.2.1.keep k,z.2.2⟩) j⟩
theorem eZn{xs:List (κ×Addr×ab)}(r:aZ (KX N M H) kw xs)(k:κ):RelO (valV kw k) ((atKey xs k).map (·.2)):=by
 induction r with
 |nil=>exact True.intro
 |@cons p q ps j h t B =>
  obtain⟨h1,_,h2⟩:=h
  by_cases e:p.1=k
  ·have b:atKey (q::j) k=some q.2:=by simp[atKey,dq,h1.symm.trans e]
   rw[bXj e,b];exact h2
  ·have D:¬ q.1=k:=λz=>e (h1.trans z);have b:atKey (q::j) k=atKey j k:=by simp[atKey,dq,D]
   rw[bXk e,b];exact B
theorem eZo(r:aZ (KX N M H) kw xs)(k:κ){b:Addr}{y:V}{u:ab}(hb:RepV K M H (N.enc k) (.ref b))(ry:RelV y u):aZ (KX N M H) (putK kw k y) (storedH xs k b u):=by
 have e:(kw.any λj=>decide (j.1=k))=(atKey xs k).isSome:=by rw[cZu,(eZn r k).isSome_eq,Option.isSome_map]
 unfold putK storedH;rw[e]
 by_cases q:(atKey xs k).isSome=true
 ·rw[if_pos q,if_pos q];clear e q
  induction r with
  |nil=>exact .nil
  |@cons p q ps G h t B =>
   rw[aL,aL];refine .cons ?_ B;obtain⟨h1,h2,D⟩:=h;unfold putAt
   by_cases e:p.1=k
   ·rw[if_pos e,if_pos (h1.symm.trans e)];exact⟨h1,h2,ry⟩
   ·rw[if_neg e,if_neg (λz=>e (h1.trans z))];exact⟨h1,h2,D⟩
 ·rw[if_neg q,if_neg q];exact aZ.snoc r ⟨rfl,hb,ry⟩
theorem DxV.at{X:Cx}{pins:List (Addr×Obj)}{σ:St}{s:ag}(h:DxV N o M H a kw)(hP:X.prog=P)(hw:X.w=w)(hK:X.K=K)(I:Inv X pins σ H s) :
  s.heap.get? a=some o/\∃xs,s.heap.DictOfH N.knd a xs/\aZ (KX N M H) kw xs:=by
 obtain⟨es,ep,xs,h1,h2,U,O,J,h6,h7,z⟩:=h;obtain⟨j,_⟩:=I.hok a _ h1;refine⟨j,xs,⟨o,es,ep,j,h2,U,O,λx G=>?_,J⟩,z⟩;obtain⟨p,Z,D,B,Y⟩:=ST.paired_mem' z x G;rw[<- D];exact N.key hP hw hK I B
theorem DxV.no(h:DxV N o M H a kw):o.ExactDict:=by
 obtain⟨es,ep,xs,h1,h2,_⟩:=h;exact h2
theorem DxV.lo(h:DxV N o M H a kw):(a==fk)=false:=by
 obtain⟨es,ep,xs,h1,h2,J,G,D,B,j,z⟩:=h;exact j
theorem DxV.len(h:DxV N o M H a kw):kw.length<=sizeLine:=by
 obtain⟨es,ep,xs,h1,h2,J,G,D,j,B,z⟩:=h;exact j
end
section
variable{X:Cx}{K:Fg}{κ:Type}[DecidableEq κ]{pos:Pos}{k:Nat}
theorem eQe{N:KnD X.prog X.w K κ}(M:Am):PE X (.Dict [] [] pos) (λ_ H Q=>∀p,H p=none->∀o,DxV N o M (upd H p (cdO p o)) p []->Q (.ref p) (upd H p (cdO p o))):=λpins s σ H Q I h=>by
 have j:(s.heap.push { cls:=.type "dict",data:=.dict #[] }).get? s.heap.objs.size=some { cls:=.type "dict",data:=.dict #[] }:=aq _ rfl;have lo:=beq_eq_false_iff_ne.mpr (cE (Nat.ne_of_lt I.big));exact wpAny_Dict_empty ⟨.ref s.heap.objs.size,_,I.laid (o:=cdO s.heap.objs.size { cls:=.type "dict",data:=.dict #[] }) (λ_ _ q=>ae _ q) (Nat.le_refl _) ⟨j,⟨_,j⟩,λg1 g2 g k=>k _ g⟩,rfl,
  h _ (I.hok.fresh (Nat.le_refl _)) _ ⟨#[],0,[],aQ6,⟨rfl,rfl,rfl⟩,rfl,rfl,eE,Nat.zero_le _,lo,.nil⟩⟩
def gXo{P:ax}{w:aK}(N:KnD P w K κ)(td ty tx:TE):TE:=fun σ H Q=>td σ H λx H1=>(∃a o M kw,x=.ref a/\DxV N o M H1 a kw)/\ty σ H1 λy H2=>tx σ H2 λz H3=>∃a o M kw k,x=.ref a/\DxV N o M H3 a kw/\RepV K M H3 (N.enc k) y/\Q ((valV kw k).getD z) H3
theorem fQq{N:KnD X.prog X.w K κ}{o e f:Expr}{apos cpos:Pos}{td ty tx:TE}(hu:X.A.units+8<bN)(hK:X.K=K)(ho:PE X o td)(he:PE X e ty)(hf:PE X f tx)(m:M2 X o "get" apos e f cpos):PE X (.Call (.Attribute o "get" apos) [e,f] [] cpos) (gXo N td ty tx):=by
 intro pins s σ H Q I h;refine wpAny_Call_method m.base m.few m.line jX kz PySem.F.type_dict_get (thn (ho pins s σ H _ I h) λu s1 ⟨x,H1,O,Z,⟨a,D,M,kw,ex,d⟩,q1⟩=>?_);subst ex;obtain rfl:u=cY a:=Z;obtain⟨G,_⟩:=d.at rfl rfl hK O;refine⟨⟨D,G,d.no.1⟩,λb q=>by cases q;exact⟨D,G,d.no.2.1⟩,?_⟩
 rw[m.trees];refine g9 rfl (Calls.evalArgs_plain (d6 (thn (he pins s1 σ H1 _ O q1) λiv s2 ⟨y,H2,I2,Y,q2⟩ =>
  d6 (thn (hf pins s2 σ H2 _ I2 q2) λfv s3 ⟨z,H3,j,U,a',ob',M',kw',k,ea,J,B,q3⟩=>fV ?_))))
 cases ea;obtain⟨b,rfl⟩:=N.ref B;cases (Y)
 obtain⟨g1,xs,dd,rel⟩:=J.at rfl rfl hK j;exact call_meetsIn kz dd.typeIs PySem.F.entry_dict_get (PySem.F.args_dict_get_3 _ _ _) (meetsH_dict_get_default N.knd a b J.lo fv) ⟨N.room hu,k,xs,N.key rfl rfl hK j B,dd,⟨_,H3,j.tok _,(eZn rel k).getD U,q3⟩⟩
def gXp{P:ax}{w:aK}(N:KnD P w K κ)(td ty tv:TE):TS:=λD σ H=>tv σ H λv H1=>td σ H1 λx H2=>ty σ H2 λy H3=>∃a o M kw k,x=.ref a/\M a/\DxV N o M H3 a kw/\RepV K M H3 (N.enc k) y/\kw.length<sizeLine/\∀o',DxV N o' M (upd H3 a (cdO a o')) a (putK kw k v)->D.nx σ (upd H3 a (cdO a o'))
theorem fQr{N:KnD X.prog X.w K κ}{o i value:Expr}{pos':Pos}{td ty tv:TE}(hu:X.A.units+8<bN)(hK:X.K=K)(ho:PE X o td)(hi:PE X i ty)(hv:PE X value tv)(hs:iq value (some (.Subscript o i pos')) pos.line X.env=pure false) :
  PS X (.Assign [.Subscript o i pos'] value pos) (gXp N td ty tv):=by
 intro pins s σ H D I h;refine wpAny_Assign_Subscript (thn (hv pins s σ H _ I h) λr s1 ⟨v,H1,I1,rv,q1⟩=>thn (ho pins s1 σ H1 _ I1 q1) λu s2 ⟨x,H2,I2,rx,q2⟩=>thn (hi pins s2 σ H2 _ I2 q2) λiv s3 ⟨y,Y,U,Z,a,ob,M,kw,k,ex,hM,d,j,hl,q3⟩=>?_) hs;subst ex;obtain rfl:u=cY a:=rx;obtain⟨b,rfl⟩:=N.ref j;cases (Z)
 obtain⟨g1,xs,dd,rel⟩:=d.at rfl rfl hK U;have hz:xs.length<=sizeLine:=by rw[<- bL rel];exact d.len
 have J:(putK kw k v).length<=sizeLine:=by have:=cQr kw k v;lia
 obtain⟨_,_,_,hH,_⟩:=id d;refine wpAny_setItem_heap (N.room hu) (N.key rfl rfl hK U j) dd λh' O B=>?_;obtain⟨q,es,ep,G,h2,h3,h4,_,h5⟩:=O;have kp:Keep M Y M (upd Y a (cdO a q)):=⟨λc oc hc e=>by rw[upd_ne (λz=>hc (by rw[z];exact hM))];exact e,λ_ h _=>h⟩
 refine⟨σ,_,dZe U (by rw[hH];exact True.intro) B ⟨q,G⟩ (ob:=cdO a q) ⟨G,⟨_,G⟩,λg1 g2 g k=>k _ g⟩,q3 q ⟨es,ep,_,aQ6,h2,h3,h4,h5,J,d.lo,Paired.imp (λ_ _ z=>⟨z.1,z.2.1.keep kp,z.2.2⟩) (eZo rel k j rv)⟩⟩
end
section
variable{P:ax}{w:aK}{K:Fg}{κ:Type}[DecidableEq κ]{F:Am}{S:Sto}{H:Hp}{a:Addr}
abbrev PX(K:Fg)(M:Am)(H:Hp)(p:κ×V)(q:κ×D):Prop:=p.1=q.1/\RepV K M H q.2 p.2
def dxO(N:KnD P w K κ)(o:Obj)(kvs:List (κ×D)):DO:=.ex (λM H a=>∃kw,DxV N o M H a kw/\aZ (PX K M H) kw kvs)
 (λM M' H H' a k e h=>by
  obtain⟨kw,h1,h2⟩:=h;exact⟨kw,h1.keep k e,Paired.imp (λ_ _ z=>⟨z.1,z.2.keep k⟩) h2⟩)
 λM H a h=>by
  obtain⟨kw,⟨es,ep,xs,h1,_⟩,_⟩:=h;exact⟨_,h1,trivial⟩
theorem gQv{kw:List (κ×V)}{kvs:List (κ×D)}(r:aZ (PX K M H) kw kvs)(k:κ):(valV kw k=none/\valX kvs k=none)\/∃v d,valV kw k=some v/\valX kvs k=some d/\RepV K M H d v:=by
 induction r with
 |nil=>exact .inl ⟨rfl,rfl⟩
 |@cons p q ps B h t j =>
  by_cases e:p.1=k
  ·exact .inr ⟨_,_,bXj e,eQc (h.1.symm.trans e),h.2⟩
  ·rw[bXk e,eQd λz=>e (h.1.trans z)];exact j
theorem eZp{kw:List (κ×V)}{kvs:List (κ×D)}(l:aZ (PX K M H) kw kvs)(k:κ){v:V}{d:D}(rv:RepV K M H d v):aZ (PX K M H) (putK kw k v) (putX kvs k d):=by
 have j:(kw.any λz=>decide (z.1=k))=kvs.any λz=>decide (z.1=k):=by
  induction l with
  |nil=>rfl
  |cons h _ B=>rw[jI,jI,h.1,B]
 unfold putK putX;rw[j]
 split
 ·rename_i G;clear j G
  induction l with
  |nil=>exact .nil
  |@cons a b as bs h _ B =>
   refine .cons ?_ B;show(if a.1=k then (a.1,v) else a).1=(if b.1=k then (b.1,d) else b).1/\RepV K M H (if b.1=k then (b.1,d) else b).2 (if a.1=k then (a.1,v) else a).2
   rw[h.1]
   split
   ·exact⟨rfl,rv⟩
   ·exact h
 ·rename_i G;exact aZ.snoc l ⟨rfl,rv⟩
end
section
variable{X:Cx}{K:Fg}{κ:Type}[DecidableEq κ]{pos:Pos}{k:Nat}{P:ax}{w:aK}
def gXq(N:KnD P w K κ):ED:=λ_ S Q=>∀p,S p=none->∀o,Q (.ref p) (supd S p (dxO N o []))
theorem fQs(N:KnD P w K κ)(hP:X.prog=P:=by rfl)(hw:X.w=w:=by rfl):PD K X (.Dict [] [] pos) (gXq N):=by
 subst hP hw;refine .of (eQe (N:=N) (λ_=>False)) fun σ H Q z=>z.el λF S Γ QD r g q c=>λp j o U=>?_;refine c (.ref p) (.ref p) _ (supd S p (dxO N o [])) (Ext.mk' j) (r.mk' j ⟨[],?_,.nil⟩) (by rfl) (q p (r.sn j) o)
 obtain⟨es,ep,xs,h1,h2,O,J,G,D,B,h8⟩:=U;cases h8;exact⟨es,ep,[],h1,h2,O,J,G,D,B,.nil⟩
def gXr(N:KnD P w K κ)(td ty tx:ED):ED:=fun Γ S Q=>td Γ S λx S1=>(∃a o kvs,x=.ref a/\S1 a=some (dxO N o kvs))/\ty Γ S1 λy S2=>tx Γ S2 λz S3=>∃a o kvs k,x=.ref a/\S3 a=some (dxO N o kvs)/\y=N.enc k/\Q ((valX kvs k).getD z) S3
theorem dXe(N:KnD P w K κ){o e f:Expr}{apos cpos:Pos}{td ty tx:ED}(hr:Room k X.A)(ho:PD K X o td)(he:PD K X e ty)(hf:PD K X f tx)(hP:X.prog=P:=by rfl)(hw:X.w=w:=by rfl)(hK:X.K=K:=by rfl)(m:M2 X o "get" apos e f cpos:=by exact⟨rfl,rfl,rfl,rfl⟩) :
  PD K X (.Call (.Attribute o "get" apos) [e,f] [] cpos) (gXr N td ty tx):=by
 subst hP hw;refine .of (fQq (N:=N) (lt64 hr) hK ho.o he.o hf.o m) fun σ H Q z0=>z0.el λF S Γ QD r g q c=>⟨F,S,Γ,_,r,g,q,λv d H1 S1 B r1 v1 ⟨⟨a,o,G,O,J⟩,q1⟩=>⟨?_,F,S1,Γ,_,r1,g.ext B,q1,λy dy H2 S2 Z r2 v2 q2=>⟨F,S2,Γ,_,r2,g.ext (B.trans Z),q2,λz dz H3 S3 Y D v3 q3=>?_⟩⟩⟩
 ·subst O;obtain⟨kw,U,_⟩:=r1.obj a _ J;exact⟨a,o,_,kw,rref v1,U⟩
 ·obtain⟨a,o,G,k,O,J,e3,j⟩:=q3;subst O e3;obtain⟨kw,U,pp⟩:=D.obj a _ J;refine⟨a,o,_,kw,k,rref v1,U,v2.ext Y,?_⟩;have cc:=Cn.shift c (B.trans (Z.trans Y));rcases gQv pp k with⟨h1,h2⟩|⟨v',d',h1,h2,h3⟩
  ·rw[h1];rw[h2] at j;exact cc.here D v3 j
  ·rw[h1];rw[h2] at j;exact cc.here D h3 j
def gXs(N:KnD P w K κ)(td ty tv:ED):SD:=λE Γ S=>tv Γ S λv S1=>td Γ S1 λx S2=>ty Γ S2 λy S3=>∃a o kvs k,x=.ref a/\S3 a=some (dxO N o kvs)/\y=N.enc k/\kvs.length<sizeLine/\∀o',E.nx Γ (supd S3 a (dxO N o' (putX kvs k v)))
theorem dXf(N:KnD P w K κ){o i value:Expr}{pos':Pos}{td ty tv:ED}(hr:Room k X.A)(ho:PD K X o td)(hi:PD K X i ty)(hv:PD K X value tv)(hP:X.prog=P:=by rfl)(hw:X.w=w:=by rfl)(hK:X.K=K:=by rfl)(hs:iq value (some (.Subscript o i pos')) pos.line X.env=pure false:=by rfl) :
  PSD K X (.Assign [.Subscript o i pos'] value pos) (gXs N td ty tv):=by
 subst hP hw;refine .of (fQr (N:=N) (lt64 hr) hK ho.o hi.o hv.o hs) λD' σ H z0=>z0.el λF S Γ E r g q c=>⟨F,S,Γ,_,r,g,q,λv d H1 S1 U r1 v1 q1=>⟨F,S1,Γ,_,r1,g.ext U,q1,λx od H2 S2 O r2 v2 q2=>⟨F,S2,Γ,_,r2,g.ext (U.trans O),q2,λy dy H3 B J Z v3 ⟨a,o,D,k,e1,e2,e3,hz,q3⟩=>?_⟩⟩⟩;subst e1 e3;obtain⟨kw,dx,pp⟩:=Z.obj a _ e2;have j:B a≠none:=by rw[e2];exact λz=>by cases z
 refine⟨a,o,mt B F,kw,k,rref (v2.ext J),.inl j,dx,v3,by rw[bL pp];exact hz,λo' Y=>?_⟩
 have G:Ext B H3 (supd B a (dxO N o' (putX D k d))) (upd H3 a (cdO a o')):=Ext.write j;have x:=U.trans (O.trans (J.trans G));have mm:∀ b,¬ mt B F b->¬ mt (supd B a (dxO N o' (putX D k d))) F b:=λb hb z=>hb (z.elim (λz=>by
  by_cases e:b=a
  ·rw[e];exact .inl j
  ·rw[supd_ne e] at z;exact .inl z) .inr)
 refine c.nx Γ _ σ _ x (Z.write j ⟨_,Y.keep ⟨λ_ _ _ h=>h,λb h _=>mm b h⟩ rfl,?_⟩) (g.ext x) (q3 o');exact eZp (Paired.imp (λ_ _ z=>⟨z.1,z.2.ext G⟩) pp) k (v1.ext (O.trans (J.trans G)))
end
theorem dXg{R:α->β->Prop}:∀{l:List α}{m:List β},aZ R l m->∀(i:Nat) (b:β),m[i]?=some b->∃a,l[i]?=some a/\R a b
 |_,_,.nil,i,b,h=>by cases i <;> cases h
 |_,_,.cons r t,0,b,h=>by cases h;exact⟨_,rfl,r⟩
 |_,_,.cons r t,i+1,b,h=>dXg t i b h
theorem cXg{R:α->β->Prop}:∀{l:List α}{m:List β},aZ R l m->∀(i:Nat) (a:α),l[i]?=some a->∃b,m[i]?=some b/\R a b
 |_,_,.nil,i,b,h=>by cases i <;> cases h
 |_,_,.cons r t,0,b,h=>by cases h;exact⟨_,rfl,r⟩
 |_,_,.cons r t,i+1,b,h=>cXg t i b h
def tKN(P:ax)(w:aK)(K:Fg):KnD P w K (List Str) where
 knd:=tupleKind (strKind P w)
 enc:=tupS
 room:=λh=>tupleKind_room_in1 (by omega)
 key:=λ{X pins σ H s M k b} e1 e2 e3 I r=>by
  subst e1 e2 e3;unfold tupS RepV at r;obtain⟨a,xs,e,t,l⟩:=r;cases e;obtain⟨its,ri,tp,_⟩:=I.tuple t.sq;obtain⟨b',e',hk⟩:=dQg (K:=X.K) (H:=H) (aJk l) ri tp;cases e';exact hk
 ref:=λ{M H k v} r=>by
  unfold tupS RepV at r;obtain⟨a,xs,e,_⟩:=r;exact⟨a,e⟩
end L2
namespace L2
open PySem PySem.SeqAt PyProof.Rows
inductive Qt(h:bb):Nat->ab->Prop
 |val {n:Nat}{v:ab}:ja v=true->Qt h n v
 |tup {n:Nat}{a:Addr}{xs:Array ab}:h.IsTuple a xs->(∀v∈xs.toList,Qt h n v)->Qt h (n+1) (.ref a)
section
variable{s:ag}{A:aU}{E:ab->ag->Prop}{w:aK}{prog:ax}
theorem Qt.ok(x:Qt s.heap n v)(q:Q true s):aE (aF prog w) A (eqIsQuiet n v) Q E s:=by
 induction x generalizing Q with
 |val h=>rw[eqIsQuiet_byValue _ h];exact ad q
 |@tup n a xs t hs j =>
  obtain⟨o,g,c,m,d⟩:=t;have ty:s.TypeIs (.ref a) "tuple":=⟨o,g,c⟩;unfold eqIsQuiet;refine aa (wpAny_specialOf ty PySem.F.slot_tuple_eq.lookup (aa (iA ty isSubtype_tuple_tuple ?_)));rw[if_neg (by decide)]
  refine aa (dM g d (aa ?_));rw[show((some xs).getD #[])=xs from rfl,<- gS]
  generalize xs.toList=l at j ⊢
  induction l with
  |nil=>rw[jc];exact ad (ad q)
  |cons y l k =>
   rw[dW];refine aa (aa (j y (by simp) ?_))
   rw[if_neg (by decide)]
   exact ad (k λv h=>j v (by simp[h]))
end
def IsPr(P:ax)(w:aK)(h:bb)(k:Nat×List Str)(a:Addr):Prop:=∃t b,h.IsTuple a #[.int k.1 t,.ref b]/\j7 (strKind P w) h k.2 b
theorem cQx{h:bb}(x:h.IsTuple a xs)(y:h.IsTuple a ys):xs=ys:=by
 obtain⟨o,g,_,n,d⟩:=x;obtain⟨o',g',_,j,d'⟩:=y;rw[g] at g';cases g';rw[d] at d';cases d'
 rfl
theorem gQw(x:j7 (strKind P w) h ks a)(P':ax)(w':aK):j7 (strKind P' w') h ks a:=by
 obtain⟨o,xs,n,g,c,d,i⟩:=x;refine⟨o,xs,n,g,c,d,?_⟩;generalize xs.toList=l at i
 induction i with
 |nil=>exact .nil
 |cons z _ j=>exact .cons z j
theorem gXt(x:j7 (strKind P w) h ks a):∃xs,h.IsTuple a xs/\∀v∈xs.toList,ja v=true:=by
 obtain⟨o,xs,n,g,c,d,i⟩:=x;exact⟨xs,⟨o,g,c,n,d⟩,i.byValue⟩
section
variable{P:ax}{w:aK}
theorem IsPr.inj(hx:IsPr P w h x a)(hy:IsPr P w h y a):x=y:=by
 obtain⟨t,b,h1,h2⟩:=hx;obtain⟨u,c,z,j⟩:=hy;have e:=cQx h1 z;have e:=congrArg Array.toList e;simp only[List.cons.injEq,iV.injEq,cY.injEq,and_true] at e;obtain⟨⟨B,_⟩,rfl⟩:=e;exact Prod.ext (by lia) (h2.inj j)
theorem IsPr.quiet(x:IsPr P w h k a):Qt h 8 (.ref a):=by
 obtain⟨t,b,h1,h2⟩:=x;obtain⟨xs,z,j⟩:=gXt h2;refine .tup h1 λv m=>?_;have m:v=.int k.1 t\/v=.ref b:=by simpa using m
 rcases m with rfl|rfl
 ·exact .val rfl
 ·exact .tup z λv m=>.val (j v m)
def eZq(P:ax)(w:aK)(k:Nat×List Str):Int:=reduceHash (cr.Tuple.tupleHashOf [hashInt k.1,tupleKeyHash (strKind P w) k.2])
variable{s:ag}{A:aU}{E:ab->ag->Prop}
theorem IsPr.hash(hu:A.units+4<bN)(x:IsPr P w s.heap k a)(q:Q (eZq P w k) {s with toks:=s.toks+(k.2.length+3)}):aE (aF P w) A (pyHash (.ref a)) Q E s:=by
 obtain⟨t,b,⟨o,g,c,n,d⟩,h2⟩:=x;refine PySem.W.pyHash_slot ⟨o,g,c⟩ PySem.F.slot_tuple_hash PySem.F.entry_tuple_hash (PySem.F.args_tuple_hash_1 _) (beq_builtin_none _) (.inr (by lia)) ?_
 refine(aa (wpAny_tupleItemsOf g d ?_):aE _ _ (gf (.ref a)>>=_) _ _ s);refine aa ?_;rw[<- gS,dW];refine aa (aa (wpAny_pyHash_int (aa (ad (ad ?_)))));dsimp only;rw[dW];refine aa (aa (wpAny_pyHash_tuple (by lia) h2 (aa (ad (ad ?_)))))
 dsimp only;rw[jc];refine ad (aa (wpAny_mkInt (ad ⟨_,_,rfl,?_⟩)));have e:s.toks+1+(k.2.length+1)+1=s.toks+(k.2.length+3):=by lia
 rw[e];exact q
theorem IsPr.eq(hu:A.units+6<bN)(hx:IsPr P w s.heap x a)(hy:IsPr P w s.heap y b)(q:Q (decide (x=y)) s):aE (aF P w) A (eqBool (.ref a) (.ref b)) Q E s:=by
 by_cases B:a=b
 ·subst B;rw[hx.inj hy,decide_eq_true rfl] at q;exact EqAt.same _ P w E Q q
 obtain⟨t,c,h1,h2⟩:=hx;obtain⟨u,e,Y,U⟩:=hy;have z:EqAt A s (.ref a) (.ref b) _:=.of_refs B (.tuples (e:=λj=>if j=0 then (x.1:Int) == y.1 else decide (x.2=y.2)) h1 Y (by lia) λj J j2=>by
  have J:j<2:=J;rcases j with _|_|j
  ·exact .int_int _ _ _ _
  ·intro G D E' Q' O;exact jb (by lia) (gQw h2 G D) (gQw U G D) O
  ·lia)
 refine z P w E Q ?_;have Z:decide (x=y)=(((x.1:Int)==y.1)&&decide (x.2=y.2)):=by
  obtain⟨x1,x2⟩:=x;obtain⟨y1,y2⟩:=y;rw[dX];simp;lia
 rw[Z] at q;simpa [iM] using q
def gQx(P:ax)(w:aK):HeapKind P w (Nat×List Str) where
 is:=IsPr P w
 hash:=eZq P w
 draws:=λk=>k.2.length+3
 room:=λA=>A.units+6<bN
 inj:=λx y=>x.inj y
 keeps:=λ{h h' k a d o es ep} x ho hd hs=>by
  obtain⟨t,b,⟨o',g,c,n,e⟩,i⟩:=x;refine⟨t,b,⟨o',(hs.2 a λz=>?_).trans g,c,n,e⟩,i.keeps ho hd hs⟩;subst z;rw[g] at ho;cases ho;rw[e] at hd;cases hd
 pyHash:=λhu x q=>x.hash (by omega) q
 eqBool:=λhu x y q=>x.eq hu y q
 quiet:=λx q=>x.quiet.ok q
def prN(P:ax)(w:aK)(K:Fg):KnD P w K (Nat×List Str) where
 knd:=gQx P w
 enc:=λk=>.tup [.int k.1,tupS k.2]
 room:=λ{A} h=>by show A.units+1+6<bN;omega
 key:=λ{X pins σ H s M k b} e1 e2 e3 I r=>by
  subst e1 e2 e3;unfold RepV at r;obtain⟨a,xs,e,t,l⟩:=r;cases e;obtain⟨its,ri,tp,_⟩:=I.tuple t.sq;simp only[RepL] at l;obtain⟨x1,_,rfl,r1,x2,_,rfl,r2,rfl⟩:=l;cases ri with
  |cons u1 ri =>
  cases ri with
  |cons u2 ri =>
  cases ri;unfold RepV at r1;subst r1;obtain⟨b',rfl⟩:=(tKN X.prog X.w X.K).ref r2;obtain⟨tk,rfl⟩:=u1;cases (show _=cY b' from u2)
  exact⟨tk,b',tp,(tKN X.prog X.w X.K).key rfl rfl rfl I r2⟩
 ref:=λ{M H k v} r=>by
  unfold RepV at r;obtain⟨a,xs,e,_⟩:=r;exact⟨a,e⟩
end
end L2
namespace L2
open PySem PySem.Spec PyProof.Rows
section
variable{prog:ax}{w:aK}{A:aU}{E:ab->ag->Prop}{s:ag}{d it v:Addr}{es:Array DictEntry}{ep i:Nat}
theorem eQf{Q:ab->ag->Prop}(lo:(d==fk)=false)(x:EsAt s.heap d es ep)
  (q:Q (.ref s.heap.objs.size) {s with heap:=s.heap.push {cls:=.type "dict_items",data:=.fields #[.ref d]}}):aE (aF prog w) A (cr.«dict.items» ⟨[.ref d],[]⟩) (λf s'=>∃y,f=.done (.ret y)/\Q y s') E s:=by
 refine aa (aa (wpAny_notOrdered_dict x.ty (ad (?_))));unfold kA;rw[if_neg (by rw[lo];decide)]
 exact aa (ad (aa (bi (ad ⟨_,rfl,q⟩))))
theorem cQ2(hv:s.heap.IsItemsView v d)(x:EsAt s.heap d es ep)
  (q:Q (.ref s.heap.objs.size) {s with heap:=s.heap.push {cls:=.type "dict_itemiterator",data:=.fields #[.none,.bool false,.ref d,.int 0 0,.int es.size 0,.int ep 0,.none,.none]}}):aE (aF prog w) A (iu (.ref v)) Q E s:=by
 have D:=hv.typeIs;obtain⟨G,j,_,z⟩:=hv;obtain⟨o,B,_,hd⟩:=x;refine wpAny_pyIter_slot D F.slot_dict_items_iter (b9 F.slot_dict_items_iter D F.entry_dict_items_iter (?_) (F.args_dict_items_iter_1 _));refine aa (ad (aa (aa (ew j z rfl (ad (aa (aa (jz B hd (aa (wpAny_dictEpoch B hd ?_))))))))));simp only[show fR "dict_itemiterator"=true by decide,if_true]
 exact bi (ad ⟨_,rfl, "dict_itemiterator",_,⟨_,aq _ rfl,rfl⟩,F.slot_dict_itemiterator_next.lookup,by simpa [er,gL] using q⟩) (by simp only[sizeOk,gL,ay,au,az,cg,bH];lia)
theorem cQ3(hit:gU s.heap it d i es.size ep ok ov)(x:EsAt s.heap d es ep)(hi:i<es.size)
  (q:∀ h',IsItemIterOut h' it d (i + 1) es.size ep es[i].key es[i].val s.heap.objs.size->h'.get? s.heap.objs.size=some { cls:=.type "tuple",data:=.seq #[es[i].key,es[i].val] } ->
   h'.objs.size=s.heap.objs.size+1->(∀b o,b≠it->s.heap.get? b=some o->h'.get? b=some o)->Q (some (.ref s.heap.objs.size)) {s with heap:=h'}):aE (aF prog w) A (eJ (.ref it)) Q E s:=by
 obtain⟨hp,g,dr,tk,os⟩:=s;obtain⟨od,hod,_,hdd⟩:=x;have J:jE ⟨hp,g,dr,tk,os⟩ (.ref it) "dict_itemiterator":=⟨_,hit,rfl⟩;have own:=show fR "dict_itemiterator"=true by decide
 refine aa (iG (cN J F.slot_dict_itemiterator_next (b9 F.slot_dict_itemiterator_next J F.entry_dict_itemiterator_next (?_) (F.args_dict_itemiterator_next_1 _))));refine aa (ad (aa (aa ?_)))
 first|refine aa (d9 J (ad (aa (ie hit rfl ?_))))|refine aa (eZ J (ad (aa (ie hit rfl ?_))))
 simp only[own,if_true];refine(?_:aE _ _ (if (cY d==bZ)=true then _ else _) _ _ _)
 rw[if_neg (λz=>by cases z)]
 refine aa (ad (aa (jz hod hdd ?_)));rw[if_neg (by simp)]
 refine aa (ad (aa (wpAny_dictEpoch hod hdd ?_)));rw[if_neg (by simp)]
 refine ad ?_;simp only[by omega,if_false,cO,gB hi]
 refine aa ?_
 first|refine aa (d9 J (ad (aa (fO J ?_))))|refine aa (eZ J (ad (aa (fO J ?_))))
 refine(?_:aE _ _ (iK (.ref it) 3 (er (i+1))>>=_) _ _ ⟨hp,g,dr,tk,os⟩);refine aa (bV hit (by simp) λh1 D j=>?_)
 have j:=j;have D:gU h1 it d (i+1) es.size ep ok ov:=by
  unfold gU;rw[show((i+1:Nat))=i+1 by lia]
  simpa [er] using D
 have hT1:jE ⟨h1,g,dr,tk,os⟩ (.ref it) "dict_itemiterator":=⟨_,D,rfl⟩;refine aa (bS (aa (fO hT1 (aa (fO hT1 ?_)))));refine(?_);have O:=j.1;have ne:=Nat.ne_of_gt (aC hit);refine aa (wpAny_newTuple (?_));obtain⟨h2,e2⟩:∃h2,h2=h1.push {cls:=.type "tuple",data:=.seq #[es[i].key,es[i].val]}:=⟨_,rfl⟩;have B:gU h2 it d (i+1) es.size ep ok ov:=by rw[e2];exact ae _ D
 have ht2:h2.get? hp.objs.size=some {cls:=.type "tuple",data:=.seq #[es[i].key,es[i].val]}:=by rw[e2,<- O];exact aq _ rfl
 have hz2:h2.objs.size=hp.objs.size+1:=by rw[e2,cB,O]
 have hk2:∀b o,b≠it->hp.get? b=some o->h2.get? b=some o:=λb o G e=>by rw[e2];exact ae _ (j.extBut b o G e)
 rw[O];refine(?_);rw[<- e2];refine aa (aa (ew B rfl rfl (ad ?_)));simp only[if_true];refine aa (ew B rfl rfl (aa (ew B rfl rfl (aa (bV B (by simp) λh3 Z hs3=>?_)))))
 have Z:=Z;refine aa (bV Z (by simp) λh4 Y hs4=>?_)
 have Y:=Y;refine aa (bV Y (by simp) λh5 U hs5=>?_)
 have U:=U;refine aa (bV U (by simp) λh6 he6 hs6=>?_)
 have up:=λb o G e=>gD hs6 b o G (gD hs5 b o G (gD hs4 b o G (gD hs3 b o G e)));have sz:=(hs6.1).trans ((hs5.1).trans ((hs4.1).trans (hs3.1)))
 exact aa (jy (ad (ad ⟨_,rfl,ad (q h6 he6 (up _ _ ne ht2) (sz.trans hz2) λb o G e=>up b o G (hk2 b o G e))⟩)))
theorem cQy(hh:A.handled=none)(hit:gU s.heap it d i es.size ep ok ov)(x:EsAt s.heap d es ep)(hi:es.size<=i)
  (q:∀h',bb.ExtBut it s.heap h'->Q none {s with heap:=h'}):aE (aF prog w) A (eJ (.ref it)) Q E s:=by
 obtain⟨J,B,_,D⟩:=x;have j:s.TypeIs (.ref it) "dict_itemiterator":=⟨_,hit,rfl⟩;have own:=show fR "dict_itemiterator"=true by decide
 refine aa (iG (cN j F.slot_dict_itemiterator_next (b9 F.slot_dict_itemiterator_next j F.entry_dict_itemiterator_next (?_) (F.args_dict_itemiterator_next_1 _))));refine aa (ad (aa (aa ?_)))
 first|refine aa (d9 j (ad (aa (ie hit rfl ?_))))|refine aa (eZ j (ad (aa (ie hit rfl ?_))))
 simp only[own,if_true];refine(?_:aE _ _ (if (cY d==bZ)=true then _ else _) _ _ s)
 rw[if_neg (λz=>by cases z)]
 refine aa (ad (aa (jz B D ?_)));rw[if_neg (by simp)]
 refine aa (ad (aa (wpAny_dictEpoch B D ?_)));rw[if_neg (by simp)]
 refine ad ?_;simp only[show ¬ (i<0) by lia,if_false,cO,ke hi]
 refine aa ?_
 first|refine aa (d9 j (ad (?_:aE _ _ (iK (.ref it) 2 .none>>=_) _ _ s)))|refine aa (eZ j (ad (?_)))
 refine aa (wpAny_setField hit rfl (by simp) ?_)
 exact ST.stopT (I:=it) hh λh' k=>q h' λb o G e=>k b o ((cm ..).extBut b o G e)
end
def Itm(a:Addr)(o:Obj)(bs:List Addr)(zs:List V):It:=⟨λi H=>H a=some (cdO a o)/\i<bs.length,λi H x H'=>∃p b z,H p=none/\x=.ref p/\H'=upd H p (.tup [.ref b,z])/\bs[i]?=some b/\zs[i]?=some z,λi H=>H a=some (cdO a o)/\bs.length<=i⟩
def ist(it a:Addr)(n ep:Nat)(i:Nat)(h:bb):Prop:=∃ok ov,gU h it a i n ep ok ov
theorem cJi{P:ax}{w:aK}{K:Fg}{elts:List Expr}{x1:Nat}{pos:Pos}(a it:Addr)(hai:a≠it){o:Obj}{es:Array DictEntry}{ep:Nat}{bs:List Addr}{zs:List V}(hx:o.ExactDict)(hd:o.data=.dict es ep)(hb:es.toList.map (·.key)=bs.map cY)(hz:Vals zs (es.toList.map (·.val))):Turn P w K (.Tuple elts x1 pos) (Itm a o bs zs) [it] it (ist it a es.size ep) where
 mem:=by simp
 obj:=λi h st c O=>by
  have e:c=it:=by simpa using O
  subst e;obtain⟨ok,U,st⟩:=st;exact⟨_,st,λv z=>by cases z⟩
 keep:=λi h h' st k=>by
  obtain⟨ok,U,st⟩:=st;exact⟨ok,U,k it (by simp) _ st⟩
 item:=by
  intro X hP hw hK O i pins s σ H E I hf st hg;subst hP hw hK;obtain⟨ok,U,st⟩:=st;obtain⟨hH,hi⟩:=hg;obtain⟨ho,_⟩:=I.hok a _ hH;have hl:es.size=bs.length:=by have:=congrArg dU hb;simpa using this
  have G:i<es.size:=by lia
  have hk:es[i].key=.ref bs[i]:=by
   have:=congrArg (λl=>l[i]?) hb
   rw[aQ,aQ,af hi,aS,gB G] at this;exact a7 this
  have hzl:zs.length=es.size:=by have:=hz.length;simp at this;lia
  obtain⟨u,hu,ru⟩:=hz.get (af (show i<zs.length by lia))
  have eu:es[i].val=u:=by
   rw[aQ,aS,gB G] at hu;exact a7 hu
  refine cQ3 st ⟨o,ho,hx,hd⟩ G λh1 heo ht hsz hkp=>⟨_,rfl,?_⟩;refine wpAny_letOwnedTupleGo_items heo λh2 he2 B=>?_;have B:=B;have Z:=aC st;have Y:∀c ob,c∉[it]->s.heap.get? c=some ob->h2.get? c=some ob:=λc ob n g=>by
   have n:c≠it:=by simpa using n
   exact B.extBut c ob n (hkp c ob n g)
  have j:=I.hok.fresh (Nat.le_refl _);have nT:∀c ob,s.heap.get? c=some ob->c≠s.heap.objs.size:=λc ob g=>Nat.ne_of_lt (aC g);have nH:∀c ob,H c=some ob->c∉[it]:=λc ob g O=>by have:=(hf c O).1;rw[g] at this;cases this
  have D:h2.get? s.heap.objs.size=some {cls:=.type "tuple",data:=.seq #[.ref bs[i],u]}:=by
   rw[<- hk,<- eu];exact B.extBut _ _ (Nat.ne_of_gt Z) ht
  have hok:HOk X.prog X.w (upd H s.heap.objs.size (.tup [.ref bs[i],zs[i]])) h2:=λc ob g=>by
   by_cases hb:c=s.heap.objs.size
   ·subst hb;rw[aQ6] at g;cases g;exact⟨by rw[bH];show 2<=_;decide,[.ref bs[i],u],.cons rfl (.cons ru .nil),⟨_,D,rfl,0,rfl⟩,λo e=>by rw[D] at e;cases e;rfl⟩
   ·rw[upd_ne hb] at g;refine(I.hok c ob g).stay (λe w' J q=>?_) (λe q=>?_) λe ys q=>?_
    ·rcases J with rfl|J
     ·exact Y _ _ (nH _ _ g) q
     ·exact Y _ _ (nH _ _ J) q
    ·rw[upd_ne (aQf q j)];exact q
    ·rw[upd_ne (aQf q j)];exact q
  have un:Un (frs X.stack) [it] H (upd H s.heap.objs.size (.tup [.ref bs[i],zs[i]])) s.heap h2 :=
   ⟨λc ob g _ _ hb=>Y c ob hb g,λc ob g _ _ hb=>⟨ob.slots,Y c ob hb g⟩,λc ob g n _=>by rw[upd_ne (nT c ob g)];exact n,λc ob g hb=>⟨ob,Y c ob hb g⟩,
    λc ys g=>by rw[upd_ne (aQf g j)];exact g,λc ob v g=>by rw[upd_ne (aQf g j)];exact g,λc ps g=>⟨#[],by rw[upd_ne (aQf g j),g];simp⟩⟩
  have I2:Inv X pins σ (upd H s.heap.objs.size (.tup [.ref bs[i],zs[i]])) {s with heap:=h2}:=I.call' rfl un hok I.bare λc hb=>by
   have fe:=hf c hb;exact⟨fe.2.2.2.1,fe.2.1,fe.2.2.2.2.1,fe.2.2.2.2.2⟩
  refine⟨.ref s.heap.objs.size,_,I2,rfl,⟨_,bs[i],zs[i],j,rfl,rfl,af hi,af (by lia)⟩,⟨_,_,he2⟩,λc hb=>?_⟩
  have e:c=it:=by simpa using hb
  subst e;rw[upd_ne (Nat.ne_of_lt Z)];exact(hf c hb).1
 done:=by
  intro X hP hw hK O i pins s σ H E I hf st hg;subst hP hw hK;obtain⟨ok,U,st⟩:=st;obtain⟨hH,hi⟩:=hg;obtain⟨ho,_⟩:=I.hok a _ hH;obtain⟨f0,f1,f2,f3,f4,f5⟩:=hf it (by simp)
  have hl:es.size=bs.length:=by have:=congrArg dU hb;simpa using this
  exact cQy (I.ok.hd O) st ⟨o,ho,hx,hd⟩ (by lia) λh' eb=>⟨rfl,I.turned (λb o hb e=>eb b o hb e) f0 f1 f3 f4 f5⟩
 self:=λA i s Q E st h=>by
  obtain⟨ok,U,st⟩:=st;exact PySem.W.kcp_self st h
section
variable{X:Cx}{K:Fg}{κ:Type}[DecidableEq κ]{pos:Pos}{k:Nat}{P:ax}{w:aK}
theorem eQg{l:Expr}{tl:TE}{elts:List Expr}{x1:Nat}{tpos apos cpos:Pos}(hl:PE X l tl)(hbase:gH l "items" X.env (eval l X.env)=eval l X.env:=by rfl)(hline:(apos.endLine==cpos.line)=true:=by rfl) :
  PI X (.Tuple elts x1 tpos) (.Call (.Attribute l "items" apos) [] [] cpos) (fun σ H R=>tl σ H λx H1=>∃a o es ep bs zs,x=.ref a/\H1 a=some (cdO a o)/\o.ExactDict/\o.data=.dict es ep/\(a==fk)=false/\es.toList.map (·.key)=bs.map cY/\Vals zs (es.toList.map (·.val))/\R (Itm a o bs zs) H1):=by
 intro pins s σ H R I h;refine wpAny_Call_method hbase rfl hline jX jY PySem.F.type_dict_items (thn (hl pins s σ H _ I h) λv s1 ⟨x,H1,D,r1,O⟩=>?_);obtain⟨a,o,es,ep,bs,zs,e,hH,z,hd,lo,G,Y,q⟩:=O;subst e;cases r1;obtain⟨B,_⟩:=D.hok a _ hH;have x0:EsAt s1.heap a es ep:=⟨o,B,z,hd⟩;refine⟨x0.ty,λb e=>by cases e;exact⟨o,B,z.2.1⟩,?_⟩
 have hs:cM cpos (aD [] X.env)=[]:=rfl;rw[hs];refine g9 rfl (PySem.evalArgs_none ?_);refine b9 jY x0.ty PySem.F.entry_dict_items (eQf lo x0 ?_) (PySem.F.args_dict_items_1 _);have Z:bb.IsItemsView (s1.heap.push {cls:=.type "dict_items",data:=.fields #[.ref a]}) s1.heap.objs.size a:=⟨_,aq _ rfl,rfl,rfl⟩;have x1:EsAt (s1.heap.push {cls:=.type "dict_items",data:=.fields #[.ref a]}) a es ep:=⟨o,ae _ B,z,hd⟩;refine cQ2 Z x1 ?_
 have U:∀b o,s1.heap.get? b=some o->((s1.heap.push {cls:=.type "dict_items",data:=.fields #[.ref a]}).push {cls:=.type "dict_itemiterator",data:=.fields #[.none,.bool false,.ref a,.int 0 0,.int es.size 0,.int ep 0,.none,.none]}).get? b=some o:=λb o e=>ae _ (ae _ e);have j:(s1.heap.push {cls:=.type "dict_items",data:=.fields #[.ref a]}).objs.size=s1.heap.objs.size+1:=by simp[bb.push]
 have J:=aC B;rw[j];refine⟨s1.heap.objs.size+1,[s1.heap.objs.size+1],_,_,H1,rfl,D.kept U,cJi a (s1.heap.objs.size+1) (Nat.ne_of_lt (Nat.lt_succ_of_lt J)) z hd G Y,?_,λb G=>?_,q⟩
 ·exact⟨.none,.none,by rw[<- j];exact aq _ rfl⟩
 ·have e:b=s1.heap.objs.size+1:=by simpa using G
  subst e;exact D.fpOk (Nat.le_succ _) (D.hok.fresh (Nat.le_succ _))
def fQt(N:KnD P w K κ)(te:ED):ID:=fun Γ S Q=>te Γ S λd S1=>∃a o kvs,d=.ref a/\S1 a=some (dxO N o kvs)/\Q (kvs.map λp=>.tup [N.enc p.1,p.2]) (λS'=>S' a=some (dxO N o kvs)) S1
theorem cQ4(N:KnD P w K κ){l:Expr}{tl:ED}{elts:List Expr}{x1:Nat}{tpos apos cpos:Pos}(hl:PD K X l tl)(hbase:gH l "items" X.env (eval l X.env)=eval l X.env:=by rfl)(hline:(apos.endLine==cpos.line)=true:=by rfl) :
  PID K X (.Tuple elts x1 tpos) (.Call (.Attribute l "items" apos) [] [] cpos) (fQt N tl):=.of (eQg hl.o hbase hline) fun σ H Q z0=>z0.el λF S Γ QD r g q c =>
 ⟨F,S,Γ,_,r,g,q,λv d H1 S1 x1 r1 v1 ⟨a,o,kvs,e1,e2,G⟩=>by
  subst e1;obtain⟨kw,⟨es,ep,xs,h1,h2,h3,h4,h5,h6,h7,Z⟩,pp⟩:=r1.obj a _ e2;have hb:es.toList.map (·.key)=(xs.map (·.2.1)).map cY:=by rw[h4,bg,bg];rfl
  have hz:Vals (kw.map (·.2)) (es.toList.map (·.val)):=by
   rw[h4,bg];clear h4 hb pp h5 h6
   induction Z with
   |nil=>exact .nil
   |cons h _ ih=>exact .cons h.2.2 ih
  refine⟨a,o,es,ep,xs.map (·.2.1),kw.map (·.2),rref v1,h1,h2,h3,h7,hb,hz,c _ _ _ _ _ x1 r1 ⟨λF2 f S2 H2 x B Y i d hd=>?_,λF2 f S2 H2 x B Y=>?_⟩ G⟩
  ·obtain⟨J,⟨es2,ep2,D,O,_⟩,_⟩:=B.obj a _ Y;rw[aQ,bF] at hd;obtain⟨p,hp,rfl⟩:=hd;obtain⟨q,hq,G,q2⟩:=dXg pp i p hp;obtain⟨y,hy,y1,y2,y3⟩:=cXg Z i q hq;have j:(xs.map (·.2.1))[i]?=some y.2.1:=by rw[aQ,hy];rfl
   have U:(kw.map (·.2))[i]?=some q.2:=by rw[aQ,hq];rfl
   refine⟨⟨O,(aH.mp j).1⟩,λx' H3 ⟨a3,b,z,e3,e4,e5,e6,e7⟩=>?_⟩;subst e4 e5;rw[j] at e6;cases e6;rw[U] at e7;cases e7;rw[<- G];exact dJt B e3 (y2.keep (x.kpF f)) (q2.keep (x.kpF f))
  ·obtain⟨J,⟨es2,ep2,D,O,_⟩,_⟩:=B.obj a _ Y;refine⟨O,?_⟩;rw[ah,ah,<- bL Z,bL pp];exact Nat.le_refl _⟩
end
section
variable{X:Cx}{K:Fg}{κ:Type}[DecidableEq κ]{pos:Pos}{P:ax}{w:aK}
def gXu(N:KnD P w K κ)(tk tv:TE):TE:=fun σ H Q=>∀p,H p=none->∀o M,DxV N o M (upd H p (cdO p o)) p []->tk σ (upd H p (cdO p o)) λy H1=>tv σ H1 λv H2=>∃o1 M k,M p/\DxV N o1 M H2 p []/\RepV K M H2 (N.enc k) y/\∀o',DxV N o' M (upd H2 p (cdO p o')) p (putK [] k v)->Q (.ref p) (upd H2 p (cdO p o'))
theorem fQu{N:KnD X.prog X.w K κ}{ek ev:Expr}{tk tv:TE}(hu:N.knd.room X.A)(hK:X.K=K)(hk:PE X ek tk)(hv:PE X ev tv):PE X (.Dict [some ek] [ev] pos) (gXu N tk tv):=by
 intro pins s σ H Q I h;have U:(s.heap.push {cls:=.type "dict",data:=.dict #[]}).get? s.heap.objs.size=some {cls:=.type "dict",data:=.dict #[]}:=aq _ rfl;have lo:=beq_eq_false_iff_ne.mpr (cE (Nat.ne_of_lt I.big));have I0:=I.laid (o:=cdO s.heap.objs.size {cls:=.type "dict",data:=.dict #[]}) (t':=s.toks) (λ_ _ q=>ae _ q) (Nat.le_refl _) ⟨U,⟨_,U⟩,λg1 g2 g k=>k _ g⟩;refine wpAny_Dict_any rfl rfl (by simp) (by simp) ?_
 refine evalPairs_cons (thn (hk pins _ σ _ _ I0 (h _ (I.hok.fresh (Nat.le_refl _)) _ (λ_=>False) ⟨#[],0,[],aQ6,⟨rfl,rfl,rfl⟩,rfl,rfl,eE,Nat.zero_le _,lo,.nil⟩)) λY s1 ⟨y,H1,I1,Z,q1⟩=>?_);refine aa (thn (hv pins s1 σ H1 _ I1 q1) λvv s2 ⟨v,H2,O,rv,o1,M,k,hM,d,B,q⟩=>aa (fS (ad (evalPairs_nil ?_))));obtain⟨b,rfl⟩:=N.ref B;cases (Z)
 obtain⟨g1,xs,dd,rel⟩:=d.at rfl rfl hK O;cases rel;obtain⟨_,_,_,hH,_⟩:=id d;unfold storeAll;rw[dW];refine aa (aa (wpAny_dictSet_heap hu (N.key rfl rfl hK O B) dd λh' J D=>ad ?_));dsimp only;rw[jc];refine ad ?_;obtain⟨j,es,ep,G,h2,h3,h4,_,h5⟩:=J;have kp:Keep M H2 M (upd H2 s.heap.objs.size (cdO s.heap.objs.size j)):=⟨λc oc hc e=>by rw[upd_ne (λz=>hc (by rw[z];exact hM))];exact e,λ_ h _=>h⟩
 exact⟨.ref s.heap.objs.size,_,dZe O (by rw[hH];exact True.intro) D ⟨j,G⟩ (ob:=cdO s.heap.objs.size j) ⟨G,⟨_,G⟩,λg1 g2 g k=>k _ g⟩,rfl,q j ⟨es,ep,_,aQ6,h2,h3,h4,h5,(by rw[bH];show 1<=_;decide),lo,Paired.imp (λ_ _ z=>⟨z.1,z.2.1.keep kp,z.2.2⟩) (eZo .nil k B rv)⟩⟩
def gXv(N:KnD P w K κ)(tk tv:ED):ED:=fun Γ S Q=>∀p,S p=none->∀o,tk Γ (supd S p (dxO N o [])) λd S1=>tv Γ S1 λe S2=>∃k o1,d=N.enc k/\S2 p=some (dxO N o1 [])/\∀o',Q (.ref p) (supd S2 p (dxO N o' (putX [] k e)))
theorem gQy(N:KnD P w K κ){ek ev:Expr}{tk tv:ED}(hu:N.knd.room X.A)(hk:PD K X ek tk)(hv:PD K X ev tv)(hP:X.prog=P:=by rfl)(hw:X.w=w:=by rfl)(hK:X.K=K:=by rfl):PD K X (.Dict [some ek] [ev] pos) (gXv N tk tv):=by
 subst hP hw;refine .of (fQu hu hK hk.o hv.o) fun σ H Q z0=>z0.el λF S Γ QD r g q c=>λp D o M dx=>?_;have x0:Ext S H (supd S p (dxO N o [])) (upd H p (cdO p o)):=Ext.mk' D;have r0:Rp K F (supd S p (dxO N o [])) (upd H p (cdO p o)):=r.mk' D ⟨[],by
  obtain⟨es,ep,xs,h1,h2,h3,h4,h5,h6,h7,h8⟩:=dx;cases h8;exact⟨es,ep,[],h1,h2,h3,h4,h5,h6,h7,.nil⟩,.nil⟩
 refine⟨F,_,Γ,_,r0,g.ext x0,q p (r.sn D) o,λy dy H1 S1 Y r1 v1 q1=>⟨F,S1,Γ,_,r1,g.ext (x0.trans Y),q1,λv dv H2 B U Z v2 ⟨k,o1,e1,e2,q2⟩=>?_⟩⟩;subst e1;obtain⟨kw,G,pp⟩:=Z.obj p _ e2;cases pp;have j:B p≠none:=by rw[e2];exact λz=>by cases z
 refine⟨o1,mt B F,k,.inl j,G,v1.ext U,λo' J=>?_⟩;have O:Ext B H2 (supd B p (dxO N o' (putX [] k dv))) (upd H2 p (cdO p o')):=Ext.write j;have mm:∀ b,¬ mt B F b->¬ mt (supd B p (dxO N o' (putX [] k dv))) F b:=λb hb z=>hb (z.elim (λz=>by
  by_cases e:b=p
  ·rw[e];exact .inl j
  ·rw[supd_ne e] at z;exact .inl z) .inr)
 exact c (.ref p) (.ref p) _ _ (x0.trans (Y.trans (U.trans O))) (Z.write j ⟨_,J.keep ⟨λ_ _ _ h=>h,λb h _=>mm b h⟩ rfl,eZp .nil k (v2.ext O)⟩) (by rfl) (q2 o')
theorem fQv(hr:Room k X.A):(prN P w K).knd.room X.A:=by
 have:=lt64 (n:=6) hr
 show X.A.units+6<bN;lia
end
end L2
set_option maxHeartbeats 4000000
namespace HT
open PySem PyProof.Rows
theorem fQw(A:aU)(s:ag)(a:Str)(t:Tok)(c:Str)(u:Tok)(prog:ax)(w:aK)(E:ab->ag->Prop)(Q:ab->ag->Prop)(h:Q (.bool (!ltS a c)) s) :
  aE (aF prog w) A (richCompare .GtE (.str a t) (.str c u)) Q E s :=
 (PySem.P.ge_str h)
section
open PySem.SeqAt
open PySem.AutoSeq1 (wpAny_loadPart')
open PySem.MeetsSeq PySem.MeetsSeq2 PySem.MeetsSeq3
theorem bJ1(l b:Addr)(items items2:Array ab)(n n2:Nat)(dd dd2:Option Addr)(sl sl2:Array (Option ab))(ns ms:List Str)(hi:SAre items.toList ns)(hj:SAre items2.toList ms) :
  Meets (cr.«tuple.__ge__» ⟨[.ref l,.ref b],[]⟩)
   (λ_ R s=>s.heap.get? l=some { cls:=.type "tuple",dict:=dd,data:=.seq items n,slots:=sl }/\s.heap.get? b=some { cls:=.type "tuple",dict:=dd2,data:=.seq items2 n2,slots:=sl2 } /\
    R (.ok (.ret (.bool (!lexS ns ms)))) s) :=
 .of_wp λprog w A R s h=>by
  obtain⟨Z,g,d,Y,os⟩:=s;obtain⟨hl,hb,h⟩:=h;have f2:=gK;have z1:items.size=ns.length:=by rw[<- hi.len];simp
  have z2:items2.size=ms.length:=by rw[<- hj.len];simp
  wp_walk using bu hl,bu hb,gu _ (λrest b s'=>b.1=none/\s'=⟨Z,g,d,Y,os⟩/\∃ (vs ws:List ab) (j z:List Str),rest=vs.zip ws /\
   SAre vs j/\SAre ws z/\j.length+items2.size=z.length+items.size/\R (.ok (.ret (.bool (!lexS j z)))) ⟨Z,g,d,Y,os⟩) _
  case turn =>
   rintro⟨y,x⟩ rest b s' ⟨J,rfl,vs,ws,j,z,hz,hvi,hwi,hlen,D⟩;cases hvi with
   |nil=>rw[fZ] at hz;cases hz
   |@cons va a _ _ ha U =>
    obtain⟨t,rfl⟩:=ha;cases hwi with
    |nil=>rw[d8] at hz;cases hz
    |@cons vc c _ _ hc O =>
     obtain⟨u,rfl⟩:=hc;rw[cI] at hz;injection hz with hyx G
     injection hyx with hy hx
     subst hy hx;rw[lexS_cons] at D;simp only[az] at hlen;obtain⟨e,he,B⟩:=dQj A.in1 ⟨Z,g,d,Y,os⟩ a t c u;refine aa (he prog w _ _ ?_);cases e with
     |true =>
      rw[if_pos (B.mp rfl)] at D
      wp_walk
      exact⟨rfl,rfl,_,_,_,_,G,U,O,by lia,D⟩
     |false =>
      rw[if_neg (λq=>absurd (B.mpr q) bh)] at D;have hri:=fQw A.in1 ⟨Z,g,d,Y,os⟩ a t c u prog w
      wp_walk using hri
      exact⟨_,rfl,by simpa using D⟩
  case fin =>
   rintro⟨b1,b2⟩ s' ⟨J,rfl,vs,ws,j,z,hz,hvi,hwi,hlen,D⟩;simp only at J;subst J;have hv:(!lexS j z)=decide (items2.size<=items.size):=by
    cases hvi with
    |nil =>
     cases hwi with
     |nil =>
      simp only[cg] at hlen;rw[aJu];exact(decide_eq_true (by lia)).symm
     |cons hc hw =>
      simp only[cg,az] at hlen;rw[lexS_nil_cons];exact(decide_eq_false (by lia)).symm
    |cons ha hv =>
     cases hwi with
     |nil =>
      simp only[cg,az] at hlen;rw[lexS_cons_nil];exact(decide_eq_true (by lia)).symm
     |cons hc hw =>
      rw[cI] at hz;cases hz
   rw[hv] at D
   wp_walk
   exact⟨_,rfl,by simpa [fu] using D⟩
  case h =>
   exact⟨rfl,rfl,items.toList,items2.toList,ns,ms,rfl,hi,hj,by lia,h⟩
end
section
variable{prog:ax}{w:aK}{A:aU}{E:ab->ag->Prop}{s:ag}
theorem ge_tupStrs(hl:gE s.heap l items)(hb:gE s.heap b items2)(hi:SAre items.toList ns)(hj:SAre items2.toList ms)
  (hu:A.units<bN) (h:Q (.bool (!lexS ns ms)) s):aE (aF prog w) A (bU .GtE (.ref l) (.ref b)) Q E s:=by
 obtain⟨⟨cls,dd,data,sl⟩,G,J,n,hd⟩:=id hl;obtain⟨⟨O,D,data2,B⟩,j,z,U,hd2⟩:=id hb;simp only at J hd z hd2;subst J hd z hd2;exact fL (op:=.GtE) ⟨_,G,rfl⟩ ⟨_,j,rfl⟩ PySem.F.slot_tuple_ge PySem.F.entry_tuple_ge (PySem.F.args_tuple_ge_2 _ _) (bJ1 l b items items2 n U dd D sl B ns ms hi hj)
  ⟨G,j,⟨(λx=>nomatch x),h⟩⟩ hu
end
end HT
namespace L2
open PySem PySem.Spec PyProof.Rows
section
variable{X:Cx}{K:Fg}{pos:Pos}{k:Nat}
def rGeT(K:Fg):R2:=λx y H Q=>∃d e,dT K dS H x d/\dT K dS H y e/\Q (.bl (!HT.lexS d e)) H
theorem gQz(hu:X.A.units<bN)(hK:X.K=K:=by rfl):OpR X (bU .GtE) (rGeT K):=by
 subst hK;intro pins s σ H x y v u Q I rx ry h;obtain⟨d,e,⟨a,xs,rfl,Y,G⟩,⟨b,ys,rfl,U,D⟩,q⟩:=h;cases rx;cases ry;obtain⟨O,B,J,_⟩:=I.tuple Y;obtain⟨j,z,p2,_⟩:=I.tuple U;exact HT.ge_tupStrs J p2 (aXt G B) (aXt D z) hu ⟨.bl (!HT.lexS d e),H,I,rfl,q⟩
def geTD:R2D:=λd e S Q=>∃a b:List Str,d=tupS a/\e=tupS b/\Q (.bl (!HT.lexS a b)) S
theorem gZ0:OpD K (rGeT K) geTD:=by
 intro F S H d e x y Q QD r hd he h c;obtain⟨a,b,rfl,rfl,q⟩:=h;have one:∀{t:List Str}{v:V},RepV K (mt S F) H (tupS t) v->dT K dS H v t:=λ{t v} h=>by
  obtain⟨p,us,rfl,tt,l⟩:=h;exact⟨p,us,rfl,tt.sq,aJk l⟩
 exact⟨a,b,one hd,one he,c.bl r q⟩
theorem gZ1(hr:Room k X.A)(ha:PD K X a ta)(hb:PD K X b tb)(hK:X.K=K:=by rfl):PTD K X (.Compare a [.GtE] [b] pos) (aZj (dOp geTD ta tb)):=aX2 (gQz (lt10 (n:=0) hr) hK) gZ0 ha hb (nomark _)
end
end L2
set_option maxHeartbeats 1000000
namespace L2
open PySem PySem.Spec PyProof.Rows
section
variable{K:Fg}
theorem fQx(hi:i∉j::k::L:=by decide)(hj:j∉k::L:=by decide)(hk:k∉L:=by decide):CG K (i::j::k::L) L (gTup K 2 (cQ8 (gTup K 2 (cQ8 (bZ6 i) (cQ8 (bZ6 j) gNil))) (cQ8 (bZ6 k) gNil))) (cJ3 2 (aX7 (cJ3 2 (aX7 (aQx i) (aX7 (aQx j) cJ2))) (aX7 (aQx k) cJ2))):=λF S H Γ σ d v Q QD f r g U q c=>by
 cases d with
 |tup ds =>
  obtain⟨p,us,rfl,sq,l⟩:=tup.st U;obtain⟨hl,q⟩:=q
  match ds,hl,q with
  |[d1,d2],_,q =>
   obtain⟨v1,v2,rfl,Z,Y⟩:=l.two;cases d1 with
   |tup es =>
    obtain⟨J,O,rfl,B,l'⟩:=tup.st Z;obtain⟨D,q⟩:=q
    match es,D,q with
    |[e1,e2],_,q =>
     obtain⟨z,G,rfl,s1,s2⟩:=l'.two;have f1:Free (j::k::L) (σ.set i (some z)):=f.set hi;have f2:Free (k::L) ((σ.set i (some z)).set j (some G)):=f1.set hj;exact⟨p,_,rfl,sq,rfl,.ref J,_,rfl,J,_,rfl,B,rfl,z,_,rfl,G,_,rfl,rfl,v2,_,rfl,rfl,c _ S _ H (Ext.refl _ _) r (((g.set s1 i).set s2 j).set Y k) (((cXq (f i ai)).trans (cXq (f1 j ai))).trans (cXq (f2 k ai))) (f2.set hk) q.2.2⟩
   |_=>exact q.elim
 |_=>exact q.elim
end
end L2
namespace Toy
open PySem L2
section
variable{α β:Type}
def apP(R:α->α->Bool):(α->Bool)->List α->Nat->Nat
 |_,_,0=>1
 |_,[],_+1=>0
 |p,a::l,k+1=>(if p a=true then apP R (λb=>p b&&R a b) l k else 0)+apP R p l (k+1)
def pwB(R:α->α->Bool):List α->Bool
 |[]=>true
 |a::s=>s.all (R a)&&pwB R s
def twP(R:α->α->Bool)(p:α->Bool)(x y:α)(l:List α):Nat->Nat
 |0=>0
 |j+1=>apP R (λc=>(p c&&R x c)&&R y c) l j
theorem aZ2(R:α->α->Bool)(p:α->Bool)(l:List α):apP R p l 0=1:=by cases l <;> rfl
theorem dXh(R:α->α->Bool):∀(l:List α) (k:Nat) (p:α->Bool),((ch l k).filter λs=>s.all p&&pwB R s).length=apP R p l k
 |l,0,p=>by rw[aQo,aZ2];rfl
 |[],k+1,p=>rfl
 |a::l,k+1,p=>by
  rw[aQi,dD,au,dXh R l (k+1) p,gQ,ah];congr 1
  cases h:p a with
  |false =>
   rw[if_neg bh,eG,dP];intro s _ z;have z:((p a&&s.all p)&&(s.all (R a)&&pwB R s))=true:=z;rw[h] at z;cases z
  |true =>
   rw[if_pos rfl,<- dXh R l k]
   congr 1
   refine f6 λs hm=>?_;clear hm;show((p a&&s.all p)&&(s.all (R a)&&pwB R s))=((s.all λb=>p b&&R a b)&&pwB R s);rw[h,eQ,<- Bool.and_assoc]
   congr 1
   induction s with
   |nil=>rfl
   |cons b s j =>
    rw[iH,iH,iH,<- j];cases p b <;> cases R a b <;> cases s.all p <;> rfl
theorem aJa:∀(l:List α) (k:Nat) (p p':α->Bool),(∀a∈l,p a=p' a)->(∀a∈l,∀b∈l,p a=true->p b=true->R a b=R' a b)->apP R p l k=apP R' p' l k
 |l,0,p,p',_,_=>by rw[aZ2,aZ2]
 |[],k+1,p,p',_,_=>rfl
 |a::l,k+1,p,p',h,z=>by
  show(if p a=true then _ else 0)+_=(if p' a=true then _ else 0)+_
  rw[<- h a ai,aJa l (k+1) p p' (λb j=>h b (ak _ j)) λb j c B=>z b (ak _ j) c (ak _ B)]
  congr 1
  by_cases e:p a=true
  ·rw[if_pos e,if_pos e];refine aJa l k _ _ (λb j=>?_) λb j c B h1 h2=>z b (ak _ j) c (ak _ B) ((aV _ _).mp h1).1 ((aV _ _).mp h2).1;rw[<- h b (ak _ j)];cases hp:p b with
   |false=>rfl
   |true=>rw[z a ai b (ak _ j) e hp]
  ·rw[if_neg e,if_neg e]
theorem aXh(R:α->α->Bool)(q:α->Bool):∀(l:List α) (k:Nat) (p:α->Bool),apP R p (l.filter q) k=apP R (λa=>p a&&q a) l k
 |l,0,p=>by rw[aZ2,aZ2]
 |[],k+1,p=>rfl
 |a::l,k+1,p=>by
  rw[cb];show _=(if (p a&&q a)=true then _ else 0)+_
  cases hq:q a with
  |false=>rw[if_neg bh,kC,if_neg bh,Nat.zero_add,aXh R q l (k+1) p]
  |true =>
   rw[if_pos rfl,Bool.and_true];show(if p a=true then _ else 0)+_=_
   rw[aXh R q l (k+1) p]
   congr 1
   by_cases e:p a=true
   ·rw[if_pos e,if_pos e,aXh R q l k];refine aJa l k _ _ (λb _=>?_) λ_ _ _ _ _ _=>rfl;show((p b&&R a b)&&q b)=((p b&&q b)&&R a b);cases p b <;> cases R a b <;> cases q b <;> rfl
   ·rw[if_neg e,if_neg e]
theorem cQz(f:β->α)(R:α->α->Bool):∀(l:List β) (k:Nat) (p:α->Bool),apP R p (l.map f) k=apP (λa b=>R (f a) (f b)) (λa=>p (f a)) l k
 |l,0,p=>by rw[aZ2,aZ2]
 |[],k+1,p=>rfl
 |a::l,k+1,p=>by
  rw[aL];show(if p (f a)=true then _ else 0)+_=(if p (f a)=true then _ else 0)+_
  rw[cQz f R l (k+1) p,cQz f R l k]
theorem eQh(sy:∀a b,R a b=R b a){l l':List α}(h:l.Perm l'):∀(k:Nat) (p:α->Bool),apP R p l k=apP R p l' k:=by
 induction h with
 |nil=>intro k p;rfl
 |@cons a l l' _ D =>
  intro k p;cases k with
  |zero=>rfl
  |succ k =>
   show(if p a=true then _ else 0)+_=(if p a=true then _ else 0)+_
   rw[D (k+1) p,D k]
 |@swap a b l =>
  intro k p;cases k with
  |zero=>rfl
  |succ k =>
   show(if p b=true then apP R (λc=>p c&&R b c) (a::l) k else 0)+((if p a=true then apP R (λc=>p c&&R a c) l k else 0)+apP R p l (k+1))=(if p a=true then apP R (λc=>p c&&R a c) (b::l) k else 0)+((if p b=true then apP R (λc=>p c&&R b c) l k else 0)+apP R p l (k+1))
   have key:∀x y:α,(if p x=true then apP R (λc=>p c&&R x c) (y::l) k else 0)=(if p x=true/\p y=true/\R x y=true then twP R p x y l k else 0)+(if p x=true then apP R (λc=>p c&&R x c) l k else 0):=λx y=>by
    by_cases e:p x=true
    ·rw[if_pos e,if_pos e];cases k with
     |zero =>
      rw[aZ2,aZ2]
      split <;> rfl
     |succ j =>
      show(if (p y&&R x y)=true then _ else 0)+_=_
      congr 1
      by_cases B:p y=true/\R x y=true
      ·rw[if_pos (by rw[B.1,B.2];rfl),if_pos ⟨e,B.1,B.2⟩];rfl
      ·rw[if_neg (λz=>B ((aV _ _).mp z)),if_neg (λz=>B z.2)]
    ·rw[if_neg e,if_neg e,if_neg (λz=>e z.1)]
   rw[key b a,key a b];have s1:(if p b=true/\p a=true/\R b a=true then twP R p b a l k else 0)=(if p a=true/\p b=true/\R a b=true then twP R p a b l k else 0):=by
    rw[sy b a]
    by_cases e:p a=true/\p b=true/\R a b=true
    ·rw[if_pos e,if_pos ⟨e.2.1,e.1,e.2.2⟩];cases k with
     |zero=>rfl
     |succ j =>
      refine aJa l j _ _ (λc _=>?_) λ_ _ _ _ _ _=>rfl;cases p c <;> cases R a c <;> cases R b c <;> rfl
    ·rw[if_neg e,if_neg (λz=>e ⟨z.2.1,z.1,z.2.2⟩)]
   rw[s1];lia
 |trans _ _ h1 h2=>intro k p;rw[h1 k p,h2 k p]
end
def geq(one:List Str)(n:Str):Bool:=!HT.lexS [n] (one.take 1)
def stK(many:Nat)(one:List Str)(e:Nat×List Str):List (Nat×List Str):=(e.1,e.2.filter (geq one))::if e.1<many/\mts one (e.2.filter (geq one))=false then [(e.1+1,srS (e.2.filter (geq one)++one))] else []
def finK(many:Nat):List (List Str)->Nat×List Str->List (Nat×List Str)
 |[],e=>[e]
 |o::R,e=>(stK many o e).flatMap (finK many R)
theorem fQy(s':Srt o')(h:HT.lexS o o'=true\/o=o')(so:Srt o):∀n∈o',geq o n=true:=by
 intro n hn;cases o with
 |nil=>rfl
 |cons x r =>
  show(!(if n=x then HT.lexS [] [] else HT.ltS n x))=true
  by_cases e:n=x
  ·rw[if_pos e];rfl
  ·rw[if_neg e]
   have:HT.ltS n x=false:=by
    cases o' with
    |nil=>cases hn
    |cons y B =>
     have j:y=n\/HT.ltS y n=true:=by
      rcases av.mp hn with rfl|hn
      ·exact .inl rfl
      ·exact .inr ((aN.mp s').1 n hn)
     have z:x=y\/HT.ltS x y=true:=by
      rcases h with h|h
      ·rw[HT.lexS_cons] at h
       by_cases q:x=y
       ·exact .inl q
       ·rw[if_neg q] at h;exact .inr h
      ·injection h with h _;exact .inl h
     rcases z with rfl|z
     ·rcases j with rfl|j
      ·exact absurd rfl e
      ·exact HT.ltS_as j
     ·rcases j with rfl|j
      ·exact HT.ltS_as z
      ·exact HT.ltS_as (HT.ltS_tr z j)
   rw[this];rfl
theorem dXi(s':Srt o')(h:HT.lexS o o'=true\/o=o')(so:Srt o):mts o' (t.filter (geq o))=mts o' t:=by
 refine dX.mpr ?_;rw[mts_iff,mts_iff];constructor
 ·rintro⟨x,h1,h2⟩;exact⟨x,(ao.mp h1).1,h2⟩
 ·rintro⟨x,h1,h2⟩;exact⟨x,ao.mpr ⟨h1,fQy s' h so x h2⟩,h2⟩
theorem cZ0:∀(R:List (List Str)) (e:Nat×List Str) (p:List Str->Bool),SrtT R->(∀o∈R,Srt o)->e.1<=many->(∀o∈R,p o=!mts o e.2)->((finK many R e).filter λk=>decide (k.1=many)).length=apP (λa b=>!mts b a) p R (many-e.1)
 |[],e,p,_,_,he,_=>by
  show([e].filter _).length=_;rw[cb]
  by_cases q:e.1=many
  ·rw[if_pos (decide_eq_true q),q,Nat.sub_self];rfl
  ·rw[if_neg (by rw[decide_eq_false q];exact bh)]
   obtain⟨k,O⟩:∃k,many-e.1=k+1:=⟨many-e.1-1,by lia⟩
   rw[O];rfl
 |o::R,e,p,Y,hs,he,J=>by
  have G:=hs o ai;have B:=(aN.mp Y);have D:=λx j=>hs x (ak _ j);have mo:mts o (e.2.filter (geq o))=mts o e.2:=dXi G (.inr rfl) G;have U:∀x∈R,mts x (e.2.filter (geq o))=mts x e.2:=λx j=>dXi (D x j) (.inl (B.1 x j)) G;have c1:=cZ0 R (e.1,e.2.filter (geq o)) p B.2 D he λx j=>by rw[J x (ak _ j)];rw[U x j]
  show(((stK many o e).flatMap (finK many R)).filter _).length=_;unfold stK;rw[bq,dD,au,c1]
  by_cases q:e.1=many
  ·rw[if_neg (λz=>by lia),q,Nat.sub_self,aZ2,aZ2];rfl
  obtain⟨k,O⟩:∃k,many-e.1=k+1:=⟨many-e.1-1,by lia⟩
  rw[O];show _=(if p o=true then _ else 0)+apP _ p R (k+1)
  have po:=J o ai
  by_cases m:mts o e.2=false
  ·have Z:p o=true:=by rw[po,m];rfl
   rw[if_pos ⟨by lia,by rw[mo];exact m⟩,if_pos Z,bq,jW,ce]
   have c2:((finK many R (e.1+1,srS (e.2.filter (geq o)++o))).filter λk=>decide (k.1=many)).length=apP (λa b=>!mts b a) (λb=>p b&&(λa b=>!mts b a) o b) R (many-(e.1+1)):=cZ0 R (e.1+1,srS (e.2.filter (geq o)++o)) (λb=>p b && !mts b o) B.2 D (by lia) λx j=>by
    rw[J x (ak _ j),<- U x j,<- Bool.not_or]
    congr 1
    refine dX.mpr ?_;rw[Bool.or_eq_true,mts_iff,mts_iff,mts_iff];constructor
    ·rintro(⟨y,h1,h2⟩|⟨y,h1,h2⟩)
     ·exact⟨y,mem_srS.mpr (cZ _ h1),h2⟩
     ·exact⟨y,mem_srS.mpr (bz _ h1),h2⟩
    ·rintro⟨y,h1,h2⟩;rcases aY.mp (mem_srS.mp h1) with h|h
     ·exact .inl ⟨y,h,h2⟩
     ·exact .inr ⟨y,h,h2⟩
   rw[c2,show many-(e.1+1)=k by lia]
   exact Nat.add_comm _ _
  ·have m:mts o e.2=true:=by cases h:mts o e.2 with|true=>rfl|false=>exact absurd h m
   rw[if_neg (λz=>by rw[mo,m] at z;cases z.2),if_neg (by rw[po,m];exact bh),Nat.zero_add]
   rfl
section
variable{κ:Type}[DecidableEq κ]
def valK(l:List (κ×Nat))(k:κ):Nat:=((l.find? λp=>decide (p.1=k)).map (·.2)).getD 0
def addK(l:List (κ×Nat))(k:κ)(n:Nat):List (κ×Nat):=if (l.any λp=>decide (p.1=k))=true then l.map (λp=>if p.1=k then (p.1,valK l k+n) else p) else l++[(k,valK l k+n)]
def sumF(f:κ->Nat)(l:List (κ×Nat)):Nat:=(l.map λp=>p.2*f p.1).sum
theorem aXx(f:κ->Nat)(l m:List (κ×Nat)):sumF f (l++m)=sumF f l+sumF f m:=by unfold sumF;rw[bK,List.sum_append]
theorem any_key{l:List (κ×Nat)}{k:κ}:(l.any λp=>decide (p.1=k))=true↔k∈l.map (·.1):=by
 rw[jP,aR];exact⟨λ⟨p,h,e⟩=>⟨p,h,of_decide_eq_true e⟩,λ⟨p,h,e⟩=>⟨p,h,decide_eq_true e⟩⟩
theorem dXj{l:List (κ×Nat)}{k:κ}(h:k∉l.map (·.1)):valK l k=0:=by
 unfold valK;rw[List.find?_eq_none.mpr λp j e=>h (aR.mpr ⟨p,j,of_decide_eq_true e⟩)]
 rfl
theorem dXk(f:κ->Nat)(k:κ)(v:Nat):∀l:List (κ×Nat),(l.map (·.1)).Nodup->k∈l.map (·.1)->sumF f (l.map λp=>if p.1=k then (p.1,v) else p)+valK l k*f k=sumF f l+v*f k
 |[],_,h=>by cases h
 |p::l,nd,h=>by
  obtain⟨D,B⟩:=bo.mp (show(p.1::l.map (·.1)).Nodup from nd)
  show(if p.1=k then (p.1,v) else p).2*f (if p.1=k then (p.1,v) else p).1+sumF f (l.map _)+valK (p::l) k*f k=p.2*f p.1+sumF f l+v*f k
  by_cases e:p.1=k
  ·have:(l.map λp=>if p.1=k then (p.1,v) else p)=l:=by
    conv=>rhs;rw[<- kI l]
    refine fC λq G=>if_neg λz=>D ?_;rw[e,<- z];exact List.mem_map_of_mem G
   have j:valK (p::l) k=p.2:=by
    unfold valK;rw[dq,decide_eq_true e];rfl
   rw[if_pos e,this,j,<- e];lia
  ·have j:valK (p::l) k=valK l k:=by
    unfold valK;rw[dq,decide_eq_false e]
   have hm:=(av.mp (h)).resolve_left λz=>e z.symm
   have:=dXk f k v l B hm
   rw[if_neg e,j];lia
theorem bZ4{l:List (κ×Nat)}{k:κ}{n:Nat}:(addK l k n).map (·.1)=if k∈l.map (·.1) then l.map (·.1) else l.map (·.1)++[k]:=by
 unfold addK
 by_cases h:k∈l.map (·.1)
 ·rw[if_pos (any_key.mpr h),if_pos h,bg];refine fC λp _=>?_;show(if p.1=k then (p.1,_) else p).1=p.1
  split <;> rfl
 ·rw[if_neg (λz=>h (any_key.mp z)),if_neg h,bK];rfl
theorem bJ2{l:List (κ×Nat)}(nd:(l.map (·.1)).Nodup)(k:κ)(n:Nat):((addK l k n).map (·.1)).Nodup:=by
 rw[bZ4]
 split
 ·exact nd
 ·next h=>exact fh.mpr ⟨nd,bj ..,λx z y j e=>h (by rw[aJ.mp j] at e;exact e▸z)⟩
theorem bQ6(l:List (κ×Nat))(k:κ)(n:Nat):(addK l k n).length<=l.length+1:=by
 have:=congrArg dU (bZ4 (l:=l) (k:=k) (n:=n))
 rw[ah] at this;rw[this]
 split
 ·rw[ah];lia
 ·rw[au,ah];exact Nat.le_refl _
theorem bJ3(f:κ->Nat){l:List (κ×Nat)}(nd:(l.map (·.1)).Nodup)(k:κ)(n:Nat):sumF f (addK l k n)=sumF f l+n*f k:=by
 unfold addK
 by_cases h:k∈l.map (·.1)
 ·rw[if_pos (any_key.mpr h)]
  have:=dXk f k (valK l k+n) l nd h
  rw[Nat.add_mul] at this;lia
 ·rw[if_neg (λz=>h (any_key.mp z)),aXx,dXj h];show _+((0+n)*f k+0)=_;rw[Nat.zero_add,Nat.add_zero]
end
structure CtK(many:Nat)(ts:List (List Str))(l:List ((Nat×List Str)×Nat)):Prop where
 nd:(l.map (·.1)).Nodup
 sum:∀f,sumF f l=((ts.foldl (λL o=>L.flatMap (stK many o)) [(0,[])]).map f).sum
theorem dXl(many:Nat):∀(R:List (List Str)) (L:List (Nat×List Str)),R.foldl (λL o=>L.flatMap (stK many o)) L=L.flatMap (finK many R)
 |[],L=>by
  show L=L.flatMap λe=>[e];rw[List.flatMap_singleton']
 |o::R,L=>by
  show R.foldl _ (L.flatMap (stK many o))=_;rw[dXl many R,List.flatMap_assoc];rfl
theorem cXh{α β:Type}(f:β->Nat)(g:α->List β):∀L:List α,((L.flatMap g).map f).sum=(L.map λa=>((g a).map f).sum).sum
 |[]=>rfl
 |a::L=>by rw[bq,bK,List.sum_append,cXh f g L];rfl
structure TnK(many:Nat)(o:List Str)(done:List ((Nat×List Str)×Nat))(ways:List ((Nat×List Str)×Nat)):Prop where
 nd:(ways.map (·.1)).Nodup
 sum:∀f,sumF f ways=sumF (λe=>((stK many o e).map f).sum) done
 len:ways.length<=2*done.length
theorem TnK.nil:TnK many o [] []:=⟨eE,λ_=>rfl,Nat.le_refl _⟩
theorem TnK.one(h:TnK many o done ways)(e:Nat×List Str)(n:Nat)(c:¬ (e.1<many/\mts o (e.2.filter (geq o))=false)):TnK many o (done++[(e,n)]) (addK ways (e.1,e.2.filter (geq o)) n):=by
 refine⟨bJ2 h.nd _ _,λf=>?_,by have:=bQ6 ways (e.1,e.2.filter (geq o)) n;have:=h.len;rw[au];show _<=2*(done.length+1);lia⟩
 rw[bJ3 f h.nd,h.sum,aXx]
 congr 1
 show _=n*((stK many o e).map f).sum+0;unfold stK;rw[if_neg c];show _=n*(f _+0)+0;rw[Nat.add_zero,Nat.add_zero]
theorem TnK.two(h:TnK many o done ways)(e:Nat×List Str)(n:Nat)(c:e.1<many/\mts o (e.2.filter (geq o))=false):TnK many o (done++[(e,n)]) (addK (addK ways (e.1,e.2.filter (geq o)) n) (e.1+1,srS (e.2.filter (geq o)++o)) n):=by
 refine⟨bJ2 (bJ2 h.nd _ _) _ _,λf=>?_,?_⟩
 ·rw[bJ3 f (bJ2 h.nd _ _),bJ3 f h.nd,h.sum,aXx,Nat.add_assoc]
  congr 1
  show _=n*((stK many o e).map f).sum+0;unfold stK;rw[if_pos c];show _=n*(f _+(f _+0))+0;rw[Nat.mul_add,Nat.mul_add,Nat.mul_zero];lia
 ·have:=bQ6 ways (e.1,e.2.filter (geq o)) n
  have:=bQ6 (addK ways (e.1,e.2.filter (geq o)) n) (e.1+1,srS (e.2.filter (geq o)++o)) n
  have:=h.len
  rw[au];show _<=2*(done.length+1);lia
theorem CtK.start(many:Nat):CtK many [] [((0,[]),1)]:=⟨bj ..,λf=>by show 1*f _+0=f _+0;rw[Nat.one_mul]⟩
theorem CtK.turn(h:CtK many ts l)(t:TnK many o l ways):CtK many (ts++[o]) ways:=by
 refine⟨t.nd,λf=>?_⟩;rw[t.sum,h.sum,List.foldl_append];show _=((List.flatMap _ _).map f).sum;rw[cXh]
theorem CtK.told{many:Nat}{ts:List (List Str)}{l:List ((Nat×List Str)×Nat)}(h:CtK many ts l)(sR:SrtT ts)(hs:∀o∈ts,Srt o):((l.filter λp=>decide (p.1.1=many)).map (·.2)).sum=apP (λa b=>!mts b a) (λ_=>true) ts many:=by
 have e:((l.filter λp=>decide (p.1.1=many)).map (·.2)).sum=sumF (λk=>if k.1=many then 1 else 0) l:=by
  clear h;unfold sumF
  induction l with
  |nil=>rfl
  |cons p l j =>
   rw[cb]
   by_cases q:p.1.1=many
   ·rw[if_pos (decide_eq_true q),aL,cP,j,aL,cP];show _=p.2*(if p.1.1=many then 1 else 0)+_
    rw[if_pos q,Nat.mul_one]
   ·rw[if_neg (by rw[decide_eq_false q];exact bh),j,aL,cP]
    show _=p.2*(if p.1.1=many then 1 else 0)+_
    rw[if_neg q,Nat.mul_zero,Nat.zero_add]
 have z:∀L:List (Nat×List Str),(L.map λk=>if k.1=many then 1 else 0).sum=(L.filter λk=>decide (k.1=many)).length:=λL=>by
  induction L with
  |nil=>rfl
  |cons k L j =>
   rw[aL,cP,j,cb]
   by_cases q:k.1=many
   ·rw[if_pos q,if_pos (decide_eq_true q),az];lia
   ·rw[if_neg q,if_neg (by rw[decide_eq_false q];exact bh)];lia
 rw[e,h.sum,z,dXl];rw[bq,jW,ce];rw[cZ0 ts (0,[]) (λ_=>true) sR hs (Nat.zero_le _) λo _=>rfl]
 rfl
abbrev s_count_apart:Stmt:=top 18
theorem sc_count_apart:FnScope ["sets", "many", "counted", "one", "ways", "size", "taken", "number", "shut", "longer"] ["sets", "many"] (aQ3 s_count_apart):=fsc
def kE(l:List ((Nat×List Str)×Nat)):List ((Nat×List Str)×D):=l.map λp=>(p.1,D.int (p.2:Nat))
theorem eZr(l:List ((Nat×List Str)×Nat))(k:Nat×List Str):(valX (kE l) k).getD (D.int 0)=D.int (valK l k):=by
 unfold kE valK valX
 induction l with
 |nil=>rfl
 |cons p l j =>
  rw[aL,dq,dq]
  by_cases h:p.1=k
  ·simp[h]
  ·simpa [h] using j
theorem eZs(l:List ((Nat×List Str)×Nat))(k:Nat×List Str)(n:Nat):putX (kE l) k (D.int ((valK l k+n:Nat)))=kE (addK l k n):=by
 unfold putX addK kE;have e:((l.map λp=>(p.1,D.int (p.2))).any λj=>decide (j.1=k))=l.any λp=>decide (p.1=k):=by rw[List.any_map];rfl
 rw[e]
 split
 ·rw[bg,bg];refine fC λp _=>?_;show(if p.1=k then (p.1,D.int ((valK l k+n:Nat))) else (p.1,D.int (p.2)))=_
  show _=((if p.1=k then (p.1,valK l k+n) else p).1,D.int ((if p.1=k then (p.1,valK l k+n) else p).2))
  by_cases h:p.1=k
  ·rw[if_pos h,if_pos h]
  ·rw[if_neg h,if_neg h]
 ·rw[bK];rfl
theorem cXi{l:List ((Nat×List Str)×Nat)}{k:Nat×List Str}{n:Nat}{e:Nat×List Str}(h:e∈(addK l k n).map (·.1)):e∈l.map (·.1)\/e=k:=by
 rw[bZ4] at h
 split at h
 ·exact .inl h
 ·rcases aY.mp h with h|h
  ·exact .inl h
  ·exact .inr (aJ.mp h)
theorem fQz(a b:Nat):decide (D.int a=D.int b)=decide (a=b):=decide_eq_decide.mpr ⟨λh=>by injection h with h;lia,λh=>by rw[h]⟩
theorem eQi(l:List ((Nat×List Str)×Nat)):(l.map λq=>(q.2:Int)).sum=(((l.map (·.2)).sum:Nat):Int):=by
 induction l with
 |nil=>rfl
 |cons q l j=>rw[aL,cP,aL,cP,j];lia
theorem cZ1{many:Nat}(hG:G S):∀(l:List ((Nat×List Str)×Nat)) (acc:List D),acc.length+l.length<=99999->Q (acc++(l.filter λq=>decide (q.1.1=many)).map λq=>D.int (q.2)) S ->
  aZd (cJ3 2 (aX7 (cJ3 2 (aX7 (aQx 0) (aX7 (aQx 1) cJ2))) (aX7 (aQx 2) cJ2))) (aZj (dOp (eqD false) (dVar 0) (dVar 3))) (bXi (dVar 2)) G [none,none,none,some (D.int many)] ((kE l).map λq=>.tup [.tup [.int (q.1.1),tupS q.1.2],q.2]) acc S Q
 |[],acc,_,q=>⟨hG,by simpa using q⟩
 |((size,taken),n)::l,acc,j,q=>by
  rw[az] at j;refine⟨hG,rfl,rfl,rfl,rfl,rfl,_,rfl,?_⟩;have e:=fQz size many
  rw[cb] at q
  by_cases c:size=many
  ·rw[if_pos (decide_eq_true c)] at q;refine ite2 (λ_=>⟨by rw[bH];lia,cZ1 hG l _ (by rw[au];show _+1+_<=_;lia) (by rw[be];exact q)⟩) λz=>absurd (e.trans (decide_eq_true c)) z
  ·rw[if_neg (by simpa using c)] at q
   exact ite2 (λz=>absurd (of_decide_eq_true (e.symm.trans z)) c) λ_=>cZ1 hG l _ (by lia) q
def aXm:SpD:=λds S Q=>∃(ts:List (List Str)) (many:Nat),ds=[.tup (ts.map tupS),.int many]/\ts.length<=14/\SrtT ts/\(∀t∈ts,Srt t/\t.length<=6)/\Q (.int (apP (λa b=>!mts b a) (λ_=>true) ts many:Nat)) S
section
variable{P:ax}{w:aK}{K:ar}{mg:Str->Option ab}{base:bb}{pt cc:Addr}
theorem bZe(T:Tx K mg "count_apart" s_count_apart)(B:Bs mg)(d_meets:Df P w K mg base 1 "meets" ["one", "row"] (spU K aJ7)):Df P w K mg base 2 "count_apart" ["sets", "many"] (spU K aXm):=by
 refine aZ9 T sc_count_apart (λF=>F.binds λ_ _ _ _ _ _=>us2 λ_ _=>rfl) ?_ λf cdv A outer s H E hr=>⟨_,(aQ2 (aQd (i:=2) sc_count_apart.nd rfl (a8 rfl) (gQy (prN P w K) (fQv hr) (aX6 (aQ0 aQ8 (aQ0 (aX6 aQ1) aQ1))) aQ8))
  (aQ2 (aXj du rfl (aZ0 (dv 0)) (aQv (i:=3) sc_count_apart.nd rfl (iC rfl)) (aQ2 (aQd (i:=4) sc_count_apart.nd rfl (a8 rfl) (fQs (prN P w K)))
  (aQ2 (aXj du rfl (cQ4 (prN P w K) (dv 2)) (cZr rfl (aZm (cZr rfl (aZm (aQv (i:=5) sc_count_apart.nd rfl (a8 rfl)) (aZm (aQv (i:=6) sc_count_apart.nd rfl (a8 rfl)) bXh))) (aZm (aQv (i:=7) sc_count_apart.nd rfl (a8 rfl)) bXh))) (aQ2 (aQd (i:=8) sc_count_apart.nd rfl (a8 rfl) (aZc rfl B.tuple (aQ0 (aZ5 (N':=["name", "one"]) (oc:=none) (b:=false) [0] [] rfl sc_count_apart.nd (λ_ _ _=>aQg ..) (.own (.cap (i:=3) rfl (by decide +kernel) .nil)) (aQh rfl) (aZ0 (dv 6)) (cg_name (i:=0)) (λ_ _ _ _ _=>aQa (i:=0) (nd_ ["name", "one"]) rfl (a8 rfl) (.inr rfl)) (λ_ _ _ _ _=>aQw (by exact(gZ1 hr (aX6 (aQ0 (dv 0) aQ1)) (e_sl (b:=false) (dv 1) aJm (aJn aQ8))))) aQk (λ_ _ _ _ _ _=>aQj rfl (by exact PD.o (dv 0)))) aQ1)))
  (aQ2 (dXf (prN P w K) hr (dv 4) (aX6 (aQ0 (dv 5) (aQ0 (dv 8) aQ1))) (aZk (k:=false) (dXe (prN P w K) hr (dv 4) (aX6 (aQ0 (dv 5) (aQ0 (dv 8) aQ1))) aQ8) (dv 7)))
  (aQ4 (aZy (PWD.pt (bQl (bXf hr (dv 5) (dv 1)) (aJl (bZr (aJ4 (aQ5 d_meets hr rfl (aQ0 (dv 3) (aQ0 (dv 8) aQ1)))))))) (aQ2 (aQd (i:=9) sc_count_apart.nd rfl (a8 rfl) (aX6 (aQ0 (aZk (k:=false) (dv 5) aQ8) (aQ0 (aZc rfl B.tuple (aQ0 (bXn (b:=false) hr rfl B.sorted (aQ0 (aZk (k:=false) (dv 8) (dv 3)) aQ1)) aQ1)) aQ1))))
  (aQ4 (dXf (prN P w K) hr (dv 4) (dv 9) (aZk (k:=false) (dXe (prN P w K) hr (dv 4) (dv 9) aQ8) (dv 7))))) aQq)))))
  (aQ4 (aQd (i:=2) sc_count_apart.nd rfl (a8 rfl) (dv 4))))))
  (aQ4 (aQb (fJz rfl B.sum (aQ0 (aZ5 (N':=["size", "taken", "number", "many"]) (oc:=none) (b:=false) [0,1,2] [] rfl sc_count_apart.nd (λ_ _ _=>aQg ..) (.own (.own (.own (.cap (i:=1) rfl (by decide +kernel) .nil)))) (aQh rfl) (cQ4 (prN P w K) (dv 2)) (fQx (i:=0) (j:=1) (k:=2)) (λ_ _ _ _ _=>cZ5 rfl (aZw (cZ5 rfl (aZw (aQa (i:=0) (nd_ ["size", "taken", "number", "many"]) rfl (a8 rfl) (.inr rfl)) (aZw (aQa (i:=1) (nd_ ["size", "taken", "number", "many"]) rfl (a8 rfl) (.inr rfl)) bZy))) (aZw (aQa (i:=2) (nd_ ["size", "taken", "number", "many"]) rfl (a8 rfl) (.inr rfl)) bZy))) (λ_ _ _ _ _=>aQw (by exact(cJ1 hr (dv 0) (dv 3)))) aQk (λ_ _ _ _ _ _=>aQj rfl (by exact PD.o (dv 2)))) aQ1)))))),?_⟩
 ·rintro ds S Q ⟨ts,many,rfl,_⟩;rfl
 ·rintro ds S Q ⟨ts,many,rfl,hl,sR,hs,q⟩;intro p0 hp0 o0;refine⟨z9999 (by decide),z9999 (by decide),(0,[]),o0,rfl,aQc,λo1=>?_⟩
  refine⟨_,rfl,?_⟩;refine aZt (λi Γ S'=>∃(p:Addr) (o:Obj) (l:List ((Nat×List Str)×Nat)) (x3 x4 x5 x6 x7 x8 x9:Option D),Γ=[some (.tup (ts.map tupS)),some (.int many),some (.ref p),x3,x4,x5,x6,x7,x8,x9]/\S' p=some (dxO (prN P w K) o (kE l))/\(∀b o,S b=some o->S' b=some o)/\CtK many (ts.take i) l/\l.length<=2^i/\∀e∈l.map (·.1),e.2.Nodup/\e.2.length<=6*i) ?_ ?_ ?_
  ·refine⟨p0,o1,[((0,[]),1)],none,none,none,none,none,none,none,rfl,?_,λb o e=>?_,.start many,Nat.le_refl _,?_⟩
   ·exact aQc
   ·have hb:b≠p0:=by rintro rfl;rw[e] at hp0;cases hp0
    exact(supd_ne hb).trans ((supd_ne hb).trans e)
   ·intro e he;have he:e=(0,[]):=by simpa using he
    subst he;exact⟨eE,Nat.le_refl _⟩
  ·rintro i x Γ S' N hx ⟨p,o,l,x3,x4,x5,x6,x7,x8,x9,rfl,U,fr,ct,hl2,hk⟩ hN;rw[aQ,bF] at hx;obtain⟨t,ht,rfl⟩:=hx;have hi:i<ts.length:=(aH.mp ht).1;obtain⟨tS,t6⟩:=hs t (am ht);refine⟨trivial,?_⟩;intro p' hp' o';have J:p≠p':=by rintro rfl;rw[U] at hp';cases hp'
   have hl3:l.length<=16384:=Nat.le_trans hl2 (Nat.pow_le_pow_right (n:=2) (by decide) (show i<=14 by omega))
   refine⟨p,o,kE l,rfl,(supd_ne J).trans U,?_⟩;refine aZt (λj Γ S2=>∃(o2:Obj) (G:List ((Nat×List Str)×Nat)) (y5 y6 y7 y8 y9:Option D),Γ=[some (.tup (ts.map tupS)),some (.int many),some (.ref p),some (tupS t),some (.ref p'),y5,y6,y7,y8,y9]/\S2 p=some (dxO (prN P w K) o (kE l))/\S2 p'=some (dxO (prN P w K) o2 (kE G))/\(∀b o,S b=some o->S2 b=some o)/\TnK many t (l.take j) G/\∀e∈G.map (·.1),e.2.Nodup/\e.2.length<=6*(i+1)) ?_ ?_ ?_
   ·exact⟨o',[],x5,x6,x7,x8,x9,rfl,(supd_ne J).trans U,aQc,λb o e=>(supd_ne (by rintro rfl;rw[fr _ _ e] at hp';cases hp')).trans (fr b o e),.nil,λe h=>nomatch h⟩
   ·rintro j y Γ S2 N2 hy ⟨o2,G,y5,y6,y7,y8,y9,rfl,O,Y,Z,tn,hk2⟩ hN2;rw[aQ,bF] at hy;obtain⟨q',hq,rfl⟩:=hy;unfold kE at hq;rw[aQ,bF] at hq;obtain⟨⟨⟨size,taken⟩,n⟩,hen,rfl⟩:=hq;have hj:j<l.length:=(aH.mp hen).1;obtain⟨knd,kl⟩:taken.Nodup/\taken.length<=6*i:=hk (size,taken) (aR.mpr ⟨_,am hen,rfl⟩);refine⟨O,rfl,rfl,rfl,rfl,?_⟩;refine⟨_,rfl,aQm (enc:=D.str) (p:=geq t) (f:=D.str) (λn hn Q' h=>?_) (λn hn _ Q' h=>h) (z9999 ?_) ?_⟩
    ·exact⟨z9999 (by show 1<=9999;decide),1,rfl,[n],t.take 1,rfl,by show D.tup (cutD (t.map D.str) none (some ((1:Nat):Int)))=_;rw[fQp,<- List.map_take];rfl,_,rfl,h⟩
    ·show 0+taken.length<=_;omega
    have sl:(taken.filter (geq t)).length<=6*i:=Nat.le_trans (bB _ _) kl;have snd:(taken.filter (geq t)).Nodup:=knd.filter _;have wl:G.length<=32768:=by
     have:=tn.len
     rw[aP] at this;omega
    have etk:l.take (j+1)=l.take j++[((size,taken),n)]:=by rw[cz,hen];rfl
    refine⟨_,rfl,⟨p',o2,kE G,rfl,Y⟩,z9999 (by show 2<=9999;decide),p',o2,kE G,(size,taken.filter (geq t)),rfl,Y,rfl,?_⟩
    rw[eZr];refine⟨z9999 (by show 2<=9999;decide),p',o2,kE G,(size,taken.filter (geq t)),rfl,Y,rfl,?_,λo3=>?_⟩
    ·show(kE G).length<sizeLine;unfold kE;rw[ah,bH];omega
    rw[show((valK G (size,taken.filter (geq t)):Nat):Int)+(n:Int)=((valK G (size,taken.filter (geq t))+n:Nat):Int) from(gP ..).symm,eZs]
    have frn:∀{o3:DO}{S3:Sto},(∀b o,S b=some o->S3 b=some o)->∀b o,S b=some o->supd S3 p' o3 b=some o:=λh b o e=>(supd_ne (by rintro rfl;rw[fr _ _ e] at hp';cases hp')).trans (h b o e)
    have kw:∀e∈(addK G (size,taken.filter (geq t)) n).map (·.1),e.2.Nodup/\e.2.length<=6*(i+1):=λe he=>by
     rcases cXi he with he|rfl
     ·exact hk2 e he
     ·exact⟨snd,by show(taken.filter (geq t)).length<=_;omega⟩
    refine⟨_,rfl,ite2 (λc0=>?_) λc0=>?_⟩
    ·have c0:size<many:=by have z:((size:Nat):Int)<((many:Nat):Int):=of_decide_eq_true c0;omega
     refine⟨Str,inferInstance,strE,t,taken.filter (geq t),tupS t,tupS (taken.filter (geq t)),rfl,by decide,.inl rfl,.inl rfl,by omega,?_⟩
     refine ite2 (λc1=>?_) λc1=>?_
     ·have c1:mts t (taken.filter (geq t))=false:=by simpa using c1
      have an:(taken.filter (geq t)++t).Nodup:=by
       rw[fh];refine⟨snd,tS.imp λh e=>?_,λa ha b hb e=>?_⟩
       ·subst e;rw[HT.ltS_ir] at h;cases h
       ·subst e
        have:=mts_iff.mpr ⟨a,ha,hb⟩
        rw[c1] at this;cases this
      refine⟨z9999 ?_,.inl ⟨taken.filter (geq t)++t,?_,_,rfl,z9999 (by show 2<=9999;decide),?_⟩⟩
      ·show((taken.filter (geq t)).map D.str).length+(t.map D.str).length<=9999;rw[ah,ah];omega
      ·show(taken.filter (geq t)++t).map D.str=(taken.filter (geq t)).map D.str++t.map D.str;rw[bK]
      have wl2:(addK G (size,taken.filter (geq t)) n).length<=32769:=Nat.le_trans (bQ6 _ _ _) (by omega)
      refine⟨⟨p',o3,kE (addK G (size,taken.filter (geq t)) n),rfl,aQc⟩,p',o3,kE (addK G (size,taken.filter (geq t)) n),(size+1,srS (taken.filter (geq t)++t)),rfl,aQc,rfl,?_⟩;rw[eZr];refine⟨p',o3,kE (addK G (size,taken.filter (geq t)) n),(size+1,srS (taken.filter (geq t)++t)),rfl,aQc,rfl,?_,λo4=>?_⟩
      ·show(kE _).length<sizeLine;unfold kE;rw[ah,bH];omega
      rw[(gP ..).symm,eZs]
      refine hN2 _ _ ⟨o4,_,_,_,_,_,_,rfl,(supd_ne J).trans ((supd_ne J).trans O),aQc,frn (frn Z),by rw[etk];exact tn.two (size,taken) n ⟨c0,c1⟩,λe he=>?_⟩
      rcases cXi he with he|rfl
      ·exact kw e he
      ·refine⟨(aXf _).nodup_iff.mpr an,?_⟩;rw[(aXf _).length_eq,au];omega
     ·have c1:mts t (taken.filter (geq t))=true:=by simpa using c1
      exact hN2 _ _ ⟨o3,_,_,_,_,_,_,rfl,(supd_ne J).trans O,aQc,frn Z,by rw[etk];exact tn.one (size,taken) n λz=>(by rw[z.2] at c1;cases c1),kw⟩
    ·have c0:¬ size<many:=λz=>c0 (decide_eq_true (show(size:Int)<many by omega))
     refine ite2 (λz=>nomatch (z)) λ_=>?_
     exact hN2 _ _ ⟨o3,_,_,_,_,_,_,rfl,(supd_ne J).trans O,aQc,frn Z,by rw[etk];exact tn.one (size,taken) n λz=>c0 z.1,kw⟩
   ·rintro Γ S2 ⟨o2,G,y5,y6,y7,y8,y9,rfl,O,Y,Z,tn,hk2⟩;have el:(l.take ((kE l).map λp=>D.tup [(prN P w K).enc p.1,p.2]).length)=l:=by
     unfold kE;rw[ah,ah,cx]
    rw[el] at tn;refine⟨O,hN _ _ ⟨p',o2,G,some (tupS t),some (.ref p'),y5,y6,y7,y8,y9,rfl,Y,Z,?_,?_,hk2⟩⟩
    ·rw[cz,ht];exact ct.turn tn
    ·rw[Nat.pow_succ]
     have:=tn.len
     omega
  ·rintro Γ S' ⟨p,o,l,x3,x4,x5,x6,x7,x8,x9,rfl,U,fr,ct,hl2,hk⟩;rw[ah,cx] at ct;have hl3:=Nat.le_trans hl2 (Nat.pow_le_pow_right (by decide) (show(ts.map tupS).length<=14 by rw[ah];exact hl))
   refine⟨trivial,p,o,kE l,rfl,U,cZ1 U l [] (by show 0+_<=_;omega) ?_⟩
   refine⟨(l.filter λq=>decide (q.1.1=many)).map λq=>(q.2),?_,eJs fr ?_⟩
   ·rw[bW,bg];rfl
   rw[eQi,ct.told sR λo ho=>(hs o ho).1];exact q
end
theorem dXm{R:α->α->Bool}:∀{s:List α},pwB R s=true↔s.Pairwise λa b=>R a b=true
 |[]=>⟨λ_=>.nil,λ_=>rfl⟩
 |a::s=>by
  show(s.all (R a)&&pwB R s)=true↔_;rw[aV,bI,aN,dXm]
theorem gZ2(a b:List Str):mts a b=mts b a:=by
 refine dX.mpr ?_;rw[mts_iff,mts_iff];exact⟨λ⟨x,h1,h2⟩=>⟨x,h2,h1⟩,λ⟨x,h1,h2⟩=>⟨x,h2,h1⟩⟩
def cwc(ts:List (List Str))(m:Nat)(c:List Str):Nat:=((ch ts m).filter λs=>decide (coG s=some c)).length
def lkC(ts:List (List Str))(c:List Str):List (List Str):=srT ((ts.filter λt=>has t c).map λt=>wo t c)
theorem dXn(ha:Srt a)(hc:Srt c)(pa:has a c=true)(pb:has b c=true):meG a b=c↔mts (wo b c) (wo a c)=false:=by
 have pa:=has_iff.mp pa;have pb:=has_iff.mp pb;constructor
 ·intro h;rw[<- Bool.not_eq_true,mts_iff];rintro⟨x,h1,h2⟩;rw[mem_wo] at h1 h2;exact h1.2 (by rw[<- h];exact mem_me.mpr ⟨h1.1,h2.1⟩)
 ·intro h;refine Srt.ext (cw _ ha) hc λn=>?_;rw[mem_me];constructor
  ·rintro⟨h1,h2⟩;refine aI λz=>?_
   have:=mts_iff.mpr ⟨n,mem_wo.mpr ⟨h1,z⟩,mem_wo.mpr ⟨h2,z⟩⟩
   rw[h] at this;cases this
  ·exact λj=>⟨pa n j,pb n j⟩
theorem gZ3{ts:List (List Str)}(nd:ts.Nodup)(hs:∀t∈ts,Srt t){m:Nat}(m2:2<=m){c:List Str}(hc:Srt c):cwc ts m c=apP (λa b=>!mts b a) (λ_=>true) (lkC ts c) m:=by
 unfold lkC;rw[eQh (λa b=>by rw[gZ2]) (aXg _),cQz,aXh,<- dXh]
 unfold cwc
 congr 1
 refine f6 λs h=>?_;obtain⟨sl,sub⟩:=ch_mem h;have sn:=nd.sublist sub;have ss:=λo Y=>hs o (sub.subset Y);refine dX.mpr ?_;rw[decide_eq_true_iff,bJw (by lia) sn ss,aV,bI,dXm]
 constructor
 ·intro G;have all:∀x∈s,(true&&has x c)=true:=by
   obtain⟨a,b,r,rfl⟩:∃a b r,s=a::b::r:=by
    cases s with
    |nil=>rw[cg] at sl;lia
    |cons a s =>
     cases s with
     |nil=>rw[d3] at sl;lia
     |cons b s=>exact⟨a,b,s,rfl⟩
   have h1:=(aN.mp G).1;intro x O;rw[eQ,has_iff];intro n J;rcases av.mp O with rfl|O
   ·have:=h1 b ai
    rw[<- this] at J;exact(mem_me.mp J).1
   ·have:=h1 x O
    rw[<- this] at J;exact(mem_me.mp J).2
  refine⟨all,bX (λ{a b} D U e=>?_) G⟩;have B:=all a D;have j:=all b U;rw[eQ] at B j;rw[(dXn (ss a D) hc B j).mp e];rfl
 ·rintro⟨all,G⟩;refine bX (λ{a b} D U e=>?_) G;have B:=all a D;have j:=all b U;rw[eQ] at B j;refine(dXn (ss a D) hc B j).mpr ?_;cases z:mts (wo b c) (wo a c) with
  |false=>rfl
  |true=>rw[z] at e;cases e
theorem cQ5{α β:Type}[DecidableEq β](g:α->Option β)(cs:List β)(nd:cs.Nodup):∀(L:List α),(∀x∈L,∀c,g x=some c->c∈cs)->(cs.map λc=>(L.filter λs=>decide (g s=some c)).length).sum=(L.filter λs=>(g s).isSome).length
 |[],_=>by
  show(cs.map λ_=>0).sum=0;clear nd
  induction cs with
  |nil=>rfl
  |cons c cs j=>rw[aL,cP,j λ_ h=>nomatch h]
 |x::L,h=>by
  have j:=cQ5 g cs nd L λy G=>h y (ak _ G);have key:∀cs:List β,(cs.map λc=>((x::L).filter λs=>decide (g s=some c)).length).sum=(cs.map λc=>if g x=some c then 1 else 0).sum+(cs.map λc=>(L.filter λs=>decide (g s=some c)).length).sum:=λcs=>by
   induction cs with
   |nil=>rfl
   |cons c cs j =>
    rw[aL,cP,aL,cP,aL,cP,j,cb]
    by_cases e:g x=some c
    ·rw[if_pos e,if_pos (decide_eq_true e),az];lia
    ·rw[if_neg e,if_neg (by rw[decide_eq_false e];exact bh)];lia
  rw[key,j,cb];cases hx:g x with
  |none =>
   have z:(cs.map λc=>if none=some c then 1 else 0).sum=0:=by
    clear nd h j key
    induction cs with
    |nil=>rfl
    |cons c cs j=>rw[aL,cP,j];rfl
   rw[z,if_neg (by exact bh),Nat.zero_add]
  |some c =>
   have hm:=h x ai c hx;have z:∀cs:List β,cs.Nodup->c∈cs->(cs.map λd=>if some c=some d then 1 else 0).sum=1:=λcs=>by
    induction cs with
    |nil=>intro _ z;cases z
    |cons d cs j =>
     intro nd hm;obtain⟨D,B⟩:=bo.mp nd;rw[aL,cP]
     by_cases e:c=d
     ·subst e;rw[if_pos rfl]
      have:(cs.map λd=>if some c=some d then 1 else 0).sum=0:=by
       clear j nd hm B
       induction cs with
       |nil=>rfl
       |cons e cs j =>
        rw[aL,cP,if_neg (λq=>D (by injection q with q;rw[q];exact ai)),j λq=>D (ak _ q)]
      rw[this]
     ·rw[if_neg (λq=>e (by injection q)),j B ((av.mp hm).resolve_left e)]
   rw[z cs nd hm,if_pos (by exact rfl),az,Nat.add_comm]
theorem cwf{cs:List (List Str)}(nd:cs.Nodup)(h:∀s∈ch ts m,∀c,coG s=some c->c∈cs):(cs.map (cwc ts m)).sum=(flO ts m).length:=cQ5 coG cs nd (ch ts m) h
abbrev s_count_with_core:Stmt:=top 17
theorem aJb:FnScope ["sets", "many", "core"] ["sets", "many", "core"] (aQ3 s_count_with_core):=fsc
def aZr:SpD:=λds S Q=>∃(ts:List (List Str)) (m:Nat) (c:List Str),ds=[.tup (ts.map tupS),.int m,tupS c]/\ts.length<=14/\SrtT ts/\(∀t∈ts,Srt t/\t.length<=6)/\Srt c/\c.length<=9999/\2<=m/\Q (.int (cwc ts m c:Nat)) S
section
variable{P:ax}{w:aK}{K:ar}{mg:Str->Option ab}{base:bb}{pt cc:Addr}
theorem aJc(T:Tx K mg "count_with_core" s_count_with_core)(B:Bs mg)(d_link_of:Df P w K mg base 2 "link_of" ["sets", "row"] (spU K bZx))(d_count_apart:Df P w K mg base 2 "count_apart" ["sets", "many"] (spU K aXm)):Df P w K mg base 3 "count_with_core" ["sets", "many", "core"] (spU K aZr):=by
 refine aZ9 T aJb (λF=>F.binds λ_ _ _ _ _ _=>us3 λ_ _ _=>rfl) ?_ λf Y A outer s H E G=>⟨_,(aQ4 (aQb (bXg (eJh G (dv 1) aQ8) (aQ5 d_count_apart G rfl (aQ0 (aQ5 d_link_of G rfl (aQ0 (dv 0) (aQ0 (dv 2) aQ1))) (aQ0 (dv 1) aQ1))) aQ8))),?_⟩
 ·rintro ds S Q ⟨D,m,c,rfl,_⟩;rfl
 ·rintro ds S Q ⟨D,m,c,rfl,hl,O,hs,sc,Z,U,q⟩;have nd:=O.nodup;have es:=λt j=>(hs t j).1;refine⟨_,rfl,ite2 (λJ=>?_) λJ=>absurd (decide_eq_true (by lia)) J⟩
  refine⟨D,c,rfl,by lia,Z,λt j=>by have:=(hs t j).2;lia,lnk D c,m,rfl,?_,cQv (gQu nd es),λt j=>?_,?_⟩
  ·unfold lnk;rw[(aXg _).length_eq,ah];exact Nat.le_trans (bB _ _) hl
  ·unfold lnk at j;rw[dZt,aR] at j;obtain⟨o,z,rfl⟩:=j;have z:=(ao.mp z).1;exact⟨(hs o z).1.filter _,Nat.le_trans (bB _ _) (hs o z).2⟩
  ·rw[gZ3 nd es U sc] at q;exact aQ7 q
end
abbrev s_count_flowers:Stmt:=top 16
theorem sc_count_flowers:FnScope ["sets", "many"] ["sets", "many"] (aQ3 s_count_flowers):=fsc
def aZ8:SpD:=λds S Q=>∃(ts:List (List Str)) (m:Nat),ds=[.tup (ts.map tupS),.int m]/\ts.length<=14/\SrtT ts/\(∀t∈ts,Srt t/\t.length<=6)/\2<=m/\Q (.int ((flO ts m).length:Nat)) S
theorem fZ0(nd:ts.Nodup)(hs:∀t∈ts,Srt t){m:Nat}(m2:2<=m){s:List (List Str)}(h:s∈ch ts m){c:List Str}(e:coG s=some c):c∈mets ts:=by
 obtain⟨hl,sub⟩:=ch_mem h;have f:=(bJw (by lia) (sub.nodup nd) λo z=>hs o (sub.subset z)).mp e
 match s,hl,sub,f with
 |a::b::r,_,sub,f =>
  have j:=(aN.mp f).1 b ai;refine aR.mpr ⟨[a,b],aZp (List.Sublist.trans (kP a (kP b (gy r))) sub),j⟩
 |[],hl,_,_=>exact absurd hl (by show ¬ 0=m;lia)
 |[a],hl,_,_=>exact absurd hl (by show ¬ 1=m;lia)
section
variable{P:ax}{w:aK}{K:ar}{mg:Str->Option ab}{base:bb}{pt cc:Addr}
theorem bQ2(T:Tx K mg "count_flowers" s_count_flowers)(B:Bs mg)(d_cores_of_two:Df P w K mg base 10 "cores_of_two" ["sets"] (spU K aZi))(d_count_with_core:Df P w K mg base 10 "count_with_core" ["sets", "many", "core"] (spU K aZr)):Df P w K mg base 11 "count_flowers" ["sets", "many"] (spU K aZ8):=by
 refine aZ9 T sc_count_flowers (λF=>F.binds λ_ _ _ _ _ _=>us2 λ_ _=>rfl) ?_ λf cdv A outer s H E U=>⟨_,(aQ4 (aQb (fJz rfl B.sum (aQ0 (aZ5 (oc:=none) (b:=false) [0] [] rfl sc_count_flowers.nd (λ_ _ _=>aQg ..) (.own (.cap (i:=0) rfl (by decide +kernel) (.cap (i:=1) rfl (by decide +kernel) .nil))) (aQh rfl) (aZ0 (aQ5 d_cores_of_two U rfl (aQ0 (dv 0) aQ1))) (cg_name) (λ_ _ _ _ _=>aQa (nd_ ["core", "sets", "many"]) rfl (a8 rfl) (.inr rfl)) (λ_ _ _ _ _=>aZ4) aQk (λ_ _ _ _ _ _=>aQj rfl (PD.o (aQ5 d_count_with_core U rfl (aQ0 (dv 1) (aQ0 (dv 2) (aQ0 (dv 0) aQ1))))))) aQ1)))),?_⟩
 ·rintro ds S Q ⟨j,m,rfl,_⟩;rfl
 ·rintro ds S Q ⟨j,m,rfl,hl,J,hs,O,q⟩;have nd:=J.nodup;have es:=λt z=>(hs t z).1;refine⟨j,rfl,hl,λt z=>by have:=(hs t z).2;lia,λout G mem=>?_⟩
  have ol:=Nat.le_trans (G.nodup.length_le_of_subset λt z=>(mem t).mp z) (bXz j hl);refine⟨_,rfl,aZo (f:=λc=>D.int (cwc j m c)) (λc Z Q q=>?_) (z9999 (by show 0+out.length<=9999;lia)) ?_⟩
  ·have hm:=(mem c).mp Z
   have:=cQ0 (λt z=>(hs t z).2) hm
   exact⟨j,m,c,rfl,hl,J,hs,(bZ2 J es hm).1,by lia,O,q⟩
  refine⟨out.map λc=>((cwc j m c)),by rw[bW,bg];rfl,aQ7 ?_⟩
  have e:(out.map λc=>((cwc j m c):Int)).sum=(((out.map (cwc j m)).sum)):=by
   clear ol G mem
   induction out with
   |nil=>rfl
   |cons c l Y=>rw[aL,cP,aL,cP,Y];lia
  rw[e,cwf G.nodup λs h c e=>(mem c).mpr (fZ0 nd es O h e)];exact q
end
abbrev s_most_beside:Stmt:=top 21
theorem sc_most_beside:FnScope ["sets", "core", "having", "meeting"] ["sets", "core"] (aQ3 s_most_beside):=fsc
def aXn:SpD:=λds S Q=>∃(ts:List (List Str)) (core:List Str),ds=[.tup (ts.map tupS),tupS core]/\SrtT ts/\ts.length<=14/\(∀t∈ts,Srt t/\t.length<=12)/\core.length<=99/\∀r,MfS (hav ts core) (mtg (hav ts core) core) (-1) r->Q (.tup (r.map tupS)) S
section
variable{P:ax}{w:aK}{K:ar}{mg:Str->Option ab}{base:bb}{pt cc:Addr}
theorem bZf(T:Tx K mg "most_beside" s_most_beside)(B:Bs mg)(d_has_all:Df P w K mg base 37 "has_all" ["one", "row"] (spU K aJq))(d_choices_of:Df P w K mg base 37 "choices_of" ["things", "many"] (spU K aZ1))(d_meet_of:Df P w K mg base 37 "meet_of" ["one", "other"] (spU K aJr))(d_most_free:Df P w K mg base 37 "most_free" ["things", "barred", "over"] (spU K aXb)):Df P w K mg base 38 "most_beside" ["sets", "core"] (spU K aXn):=by
 refine aZ9 T sc_most_beside (λF=>F.binds λ_ _ _ _ _ _=>us2 λ_ _=>rfl) ?_ λf cdv A outer s H E G=>⟨_,(aQ2 (aQd (i:=2) sc_most_beside.nd rfl (a8 rfl) (aZc rfl B.tuple (aQ0 (aZ5 (oc:=none) (b:=false) [0] [] rfl sc_most_beside.nd (λ_ _ _=>aQg ..) (.own (.cap (i:=1) rfl (by decide +kernel) .nil)) (aQh rfl) (aZ0 (dv 0)) (cg_name) (λ_ _ _ _ _=>aQa (nd_ ["one", "core"]) rfl (a8 rfl) (.inr rfl)) (λ_ _ _ _ _=>aQw ((aJ4 (aQ5 d_has_all G rfl (aQ0 (dv 0) (aQ0 (dv 1) aQ1)))))) aQk (λ_ _ _ _ _ _=>aQj rfl (PD.o (dv 0)))) aQ1)))
  (aQ2 (aJp (i:=3) rfl (a8 rfl) (oc:=none) (b:=false) [0] [] rfl sc_most_beside.nd (λ_ _ _=>aQg ..) (.own (.cap (i:=1) rfl (by decide +kernel) .nil)) (aQh rfl) (aZ0 (aQ5 d_choices_of G rfl (aQ0 (dv 2) (aQ0 aQ8 aQ1)))) (cg_name) (λ_ _ _ _ _=>aQa (nd_ ["pair", "core"]) rfl (a8 rfl) (.inr rfl)) (λ_ _ _ _ _=>aQw ((dQx G (aQ5 d_meet_of G rfl (aQ0 (e_ix (dv 0) aQ8) (aQ0 (e_ix (dv 0) aQ8) aQ1))) (dv 1)))) aQk (λ_ _ _ _ _ _=>aQj rfl (PD.o (dv 0))))
  (aQ4 (aQb (aQ5 d_most_free G rfl (aQ0 (dv 2) (aQ0 (dv 3) (aQ0 (dJi aQ8) aQ1)))))))),?_⟩
 ·rintro ds S Q ⟨z,core,rfl,_⟩;rfl
 ·rintro ds S Q ⟨z,core,rfl,hs,Z,he,hc,q⟩;refine⟨_,rfl,aQm (λt O Q q=>⟨Str,inferInstance,strE,t,core,tupS t,tupS core,rfl,by decide,.inl rfl,.inl rfl,by lia,q⟩) (λt O _ Q q=>q) (z9999 (by show 0+z.length<=_;lia)) ⟨_,rfl,?_⟩⟩
  rw[bW];have hl:(hav z core).length<=14:=Nat.le_trans (bB _ _) Z;have J:(hav z core).Nodup:=hs.nodup.filter _;have U:∀t∈hav z core,Srt t/\t.length<=12:=λt O=>he t (ao.mp O).1;have many:(Toy.ch (hav z core) 2).length<=9999:=by
   have h2:=dZy (hav z core) 2
   have:2^((hav z core).length-1)<=2^13:=Nat.pow_le_pow_right (by decide) (by lia)
   lia
  refine⟨(hav z core).map tupS,2,rfl,by decide,by rw[ah];lia,(Toy.ch (hav z core) 2).map (λs=>D.tup (s.map tupS)),(by rw[Toy.ch_map,bg];rfl),aQm (p:=λp=>!decide (mt2 p=core)) (λp hp Q q=>?_) (λp hp _ Q q=>q) (z9999 (by show 0+(Toy.ch (hav z core) 2).length<=_;lia)) ?_⟩
  ·obtain⟨a,b,rfl,Y⟩:=aZq hp;have ha:=U a (Y.subset (by simp))
   refine⟨_,_,rfl,aJe rfl,_,_,rfl,aJe rfl,a,b,rfl,by lia,?_⟩
   refine⟨setE.ok 9 _ _ (by decide),_,rfl,?_⟩
   have e:decide (tupS (a.filter λd=>decide (d∈b))=tupS core)=decide (mt2 [a,b]=core):=decide_eq_decide.mpr ⟨λh=>setE.inj h,λh=>by rw[<- h];rfl⟩
   rw[e];exact q
  ·rw[bW];refine⟨_,inferInstance,setE,hav z core,mtg (hav z core) core,-1,rfl,by decide,J,by lia,by lia,eQ0 _ hl core,λb hb=>?_,fQg J core,λm hm=>?_⟩
   ·have:=(Toy.ch_mem (ao.mp hb).1).1;lia
   cases m with
   |none=>exact absurd (hm [] (gy _) (fQh _ core)) (by decide)
   |some r=>exact aQ7 (q r hm)
end
end Toy
namespace L2
open PySem PySem.Spec PyProof.Rows
theorem dXo{P:ax}{w:aK}{K:ar}{mg mb:Str->Option ab}{k:Nat}{fa a c pt:Addr}{fd:dE}{x:Str}{sp:Sp}{s₁:ag}{vs:List ab}{ns:List Int}
  (KX:K.In s₁.heap) (hns:s₁.heap.Ns aX mg) (hb:s₁.heap.Ns ip mb) (hbb:∀x:Str,x ≠ "__name__"->mb x=cD x) (hlim:s₁.heap.NoLimit) (hg:s₁.gens=#[])
  (ha:s₁.heap.get? a=some {cls:=.type "list",data:=.seq vs.toArray}) (hi:iQ vs ns) (hl:ns.length<=sizeLine) (hr:Room k callerA)
  (T:TabF s₁.heap mg c pt) (hpt:s₁.heap.get? pt=some (ii #[])) (noP:K.lookup pt=none)
  (F:∀base:bb,K.In base->base.Ns aX mg->TabF base mg c pt->FnOk P w K mg base CX0 k fa fd [x] sp) (hbind:∀(s:ag) (u:ab),BindsTo s fd ⟨[u],[]⟩ [(x,u)])
  (hsp:∀H:Hp,H pt=some (.tbl #[])->SqL K H a (ns.map V.int)->sp [.ref a] H (λv _=>v=.bl true) λ_ _ _=>False) :
  fx (aF P w) callerA (.call (.ref fa) ⟨[.ref a],[]⟩) (λr s'=>r=.ok (.ret (.bool true))/\OldK s₁.heap s'.heap/\s'.os=s₁.os/\js s'.gens) s₁:=by
 have rv:=bQc hi;have O:=hi.length;have U:a≠pt:=λz=>by rw[z,hpt] at ha;cases ha
 have core:∀H:Hp,H pt=some (.tbl #[])->(∀b,b≠pt->H b=none\/∃o xs,H b=some (.frz o (.lst xs)))->SqL K H a (ns.map V.int)->HOk P w H s₁.heap->(∀b,H b≠none->b=a\/b=pt)->(H a≠none->K.lookup a=none) ->
   fx (aF P w) callerA (.call (.ref fa) ⟨[.ref a],[]⟩) (λr s'=>r=.ok (.ret (.bool true))/\OldK s₁.heap s'.heap/\s'.os=s₁.os/\js s'.gens) s₁:=by
  intro H hP hO hS hok hA hK;have j:∀{b:Addr}{o:Obj},s₁.heap.get? b=some o->H b=none->(hidT s₁.heap H).get? b=some o:=λe n=>dXv e n;have free:∀{b:Addr}{o:Obj},s₁.heap.get? b=some o->(∀xs n,o.data≠.seq xs n)->o≠ii #[]->H b=none:=λ{b o} e n1 n2=>by
   cases q:H b with
   |none=>rfl
   |some u =>
    rcases hA b (by rw[q];simp) with J|J
    ·subst J;rw[ha] at e;cases e;exact absurd rfl (n1 _ _)
    ·subst J;rw[hpt] at e;cases e;exact absurd rfl n2
  have noA:∀{b:Addr}{o:Obj}{es:Array DictEntry}{ep:Nat},s₁.heap.get? b=some o->o.data=.dict es ep->H b=none:=λ{b o es ep} e d =>
   free e (λxs n z=>by rw[d] at z;cases z) λz=>by rw[z] at d;cases d
  have B:∀ {b:Addr} {m:Str->Option ab},s₁.heap.Ns b m->(hidT s₁.heap H).Ns b m:=λ{b m} ⟨o,es,ep,e,d,r⟩=>⟨o,es,ep,j e (noA e d),d,r⟩;have Y:=λb o e=>j (KX b o e) (by
   cases q:H b with
   |none=>rfl
   |some u =>
    rcases hA b (by rw[q];simp) with J|J
    ·subst J;rw[hK (by rw[q];simp)] at e;cases e
    ·subst J;rw[noP] at e;cases e)
  have hM:Mod K mg (hidT s₁.heap H):=⟨Y,B hns,⟨mb,B hb,hbb⟩,let ⟨mc,h1,h2⟩:=hlim;⟨mc,B h1,h2⟩⟩
  have hT:TabF (hidT s₁.heap H) mg c pt:=by
   refine⟨?_,?_⟩
   ·obtain⟨o,us,file,tf,flags,tg,inF,text,tt,e,cl,d,r⟩:=T.hd;exact⟨o,us,file,tf,flags,tg,inF,text,tt,j e (free e (λxs n z=>by rw[d] at z;cases z) λz=>by rw[z] at cl;cases cl),cl,d,r⟩
   ·obtain⟨bm,Z,b1,b2,b3,b4,b5,b6⟩:=T.bm;exact⟨bm,Z,b1,b2,j b3 (free b3 (λxs n z=>by rw[b6] at z;cases z) λz=>by rw[z] at b6;cases b6),b4,b5,b6⟩
  have e0:Env0 P w K mg (hidT s₁.heap H) callerA [] s₁ H:=⟨rfl,rfl,hM,λb o e=>eZw e,Nat.le_of_eq (cJj _ _),trivial,λb hb=>absurd (show b∈([]) from hb) (by simp),hok,.of_eq hg⟩
  refine gn ((F _ Y (B hns) hT).run callerA [] s₁ H ⟨[.ref a],[]⟩ [.ref a] [.ref a] _ _ hr e0 (hbind s₁ (.ref a)) (.cons rfl .nil) (hsp H hP hS)) λr s' h=>?_;cases r with
  |error e=>exact d5 h
  |ok fl =>
   cases fl with
   |next=>exact d5 h
   |brk=>exact d5 h
   |cont=>exact d5 h
   |ret u =>
    obtain⟨v,H',os,bare,un,G,r',q⟩:=h;have q':=q;subst q';obtain rfl:u=i4 true:=r';have keep:=λb o nb e=>by
     cases q:H b with
     |none=>exact un.keep b o e q (by intro z;exact absurd (show b∈([]) from z) (by simp)) (by simp)
     |some u =>
      rcases hO b nb with z|⟨Z,xs,z⟩
      ·rw[q] at z;cases z
      ·have z2:=un.frzs b Z _ z;obtain⟨e1,_⟩:=hok b _ z;obtain⟨e2,_⟩:=G b _ z2;rw[e] at e1;cases e1;exact e2
    obtain⟨more,em⟩:=un.tbls pt #[] hP;have gm:=G pt _ em;refine⟨rfl,⟨λb o e=>?_,λb o e=>?_⟩,os,bare⟩
    ·by_cases z:b=pt
     ·subst z;rw[hpt] at e;cases e;exact .inr (.inl ⟨(T.hd.tab hpt).isCodeTable,rfl,#[],more,rfl,gm⟩)
     ·exact .inl (keep b o z e)
    ·by_cases z:b=pt
     ·subst z;exact⟨_,gm⟩
     ·exact⟨o,keep b o z e⟩
 cases hk:K.lookup a with
 |some o =>
  have e:=KX a o hk;rw[ha] at e;cases e;refine core (λb=>if b=pt then some (.tbl #[]) else none) (if_pos rfl) (λb hb=>.inl (if_neg hb)) (.inr ⟨_,vs.toArray,_,hk,rfl,rfl,rfl,by rw[ay,O];exact hl,by simpa using rv⟩) (λb u z=>?_) (λb z=>?_) λz=>absurd (if_neg U) z
  ·by_cases hb:b=pt
   ·have z':=(if_pos hb).symm.trans z;cases z';subst hb;exact hpt
   ·have z':=(if_neg hb).symm.trans z;cases z'
  ·by_cases hb:b=pt
   ·exact .inr hb
   ·exact absurd (if_neg hb) z
 |none =>
  refine core (λb=>if b=pt then some (.tbl #[]) else if b=a then some (.frz {cls:=.type "list",data:=.seq vs.toArray} (.lst (ns.map V.int))) else none) (if_pos rfl) (λb D=>?_) (.inl (.inr ⟨{cls:=.type "list",data:=.seq vs.toArray},(if_neg U).trans (if_pos rfl)⟩)) (λb u z=>?_) (λb z=>?_) λ_=>hk
  ·by_cases hb:b=a
   ·exact .inr ⟨_,_,(if_neg D).trans (if_pos hb)⟩
   ·exact .inl ((if_neg D).trans (if_neg hb))
  ·by_cases D:b=pt
   ·have z':=(if_pos D).symm.trans z;cases z';subst D;exact hpt
   ·have z:=(if_neg D).symm.trans z
    by_cases hb:b=a
    ·have z':=(if_pos hb).symm.trans z;cases z';subst hb;exact⟨ha,by rw[ah];exact hl,vs,_,rv,ha⟩
    ·have z':=(if_neg hb).symm.trans z;cases z'
  ·by_cases D:b=pt
   ·exact .inr D
   ·by_cases hb:b=a
    ·exact .inl hb
    ·exact absurd ((if_neg D).trans (if_neg hb)) z
def cXj(pt:Addr)(lp:Pos)(qual:Str)(n:Nat):SpD:=λds S Q=>∃ns:List Int,ds=[.lst (ns.map D.int)]/\ns.length<=n/\S pt=some (.tb lp qual)/\(∀a,a≠pt->S a=none)/\∀S',Q (.bl true) S'
theorem fZ1{K:Fg}{n:Nat}{H:Hp}{a pt:Addr}{lp:Pos}{qual:Str}{ns:List Int}(hl:ns.length<=n)(hP:H pt=some (.tbl #[]))(hS:SqL K H a (ns.map V.int)):spU K (cXj pt lp qual n) [.ref a] H (λv _=>v=.bl true) λ_ _ _=>False:=by
 have B:a≠pt\/SqL K (λ_=>none) a (ns.map V.int):=by
  rcases hS with r|z
  ·refine .inl λz=>?_;rcases r with r|⟨o,r⟩ <;> rw[z,hP] at r <;> cases r
  ·exact .inr (.inr z)
 refine⟨λ_=>False,λb=>if b=pt then some (.tb lp qual) else none,[.lst (ns.map D.int)],λd _=>d=.bl true,⟨λb o e=>?_,λ_ h=>h.elim⟩,RepL.cons ?_ RepL.nil,⟨ns,rfl,hl,if_pos rfl,λb j=>if_neg j,λ_=>rfl⟩,λv d H' S' _ _ h e=>by subst e;exact rbl h⟩
 ·by_cases j:b=pt
  ·rw[if_pos j] at e;cases e;subst j;exact⟨#[],hP,trivial,.inl rfl⟩
  ·rw[if_neg j] at e;cases e
 ·refine⟨a,_,rfl,?_,fJt⟩;rcases B with B|z
  ·rcases hS with r|z
   ·exact .inl ⟨λz=>z.elim (λw=>w (if_neg B)) id,r⟩
   ·exact .inr (.inr z)
  ·exact .inr z
def dXp(K:ar)(x:Str)(c:Addr):Prop:=∃f oc od fd sl,bO K aX x=some (some (.ref f))/\K.lookup f=some ⟨oc,od,.func fd,sl⟩/\fd.code=.ref c
theorem codeIn_mk{K:ar}(a:bO K aX x=some (some (.ref f)))(l:K.lookup f=some ⟨oc,od,.func fd,sl⟩)(e:fd.code=.ref c):dXp K x c:=⟨f,oc,od,fd,sl,a,l,e⟩
theorem dXq{K:ar}(X:K.In h)(G:h.Ns aX mg)(ht:dXp K x c):bJz K mg x c:=by
 obtain⟨B,oc,z,j,sl,a,l,e⟩:=ht;intro f o fd m lk hd;have e1:=jC X G a;rw[m] at e1;cases e1;rw[l] at lk;cases lk;cases hd;exact e
def gZ4(st:Stmt):Pos:=match aZ6 st with
 |[.Return (some (.Call _ _ (⟨_,.Lambda _ _ _ p,_⟩::_) _)) _]=>p
 |_=>⟨0,0,0,0⟩
abbrev lamQual(x:Str):Str:=x ++ ".<locals>." ++ "<lambda>"
theorem walkT{l:PySem.W.OpenLaw}{K:Params->ar}(hn:l.most=some 63)(hdf:d.params.defaults=[])
  (hY:∀(w:aK) (h:bb),YP w h->(K w.params).In h/\h.get? pt=some (ii #[]))
  (R:∃ c:Addr,(∀ p,dXp (K p) x c)/\(∀ p,PySem.W.codeHdIn (K p) c pt=true)/\(∀ p,(K p).lookup pt=none) /\
   ∀(w:aK) (mg:Str->Option ab) (fa:Addr) (h:bb),(K w.params).In h->h.Ns aX mg->mg d.name=some (.ref fa)->bJz (K w.params) mg x c ->
   ∃fd:dE,(∀(s:ag) (u:ab),BindsTo s fd ⟨[u],[]⟩ [("script",u)])/\∀base:bb,(K w.params).In base->base.Ns aX mg->TabF base mg c pt->FnOk l.prog w (K w.params) mg base CX0 50 fa fd ["script"] (spU (K w.params) (cXj pt lp qual 63))) :
  PySem.W.WalkO q loose XP YP l.row.toRowW d [] (λf vs=>PySem.call f vs):=by
 obtain⟨c,J,U,z,F⟩:=R;refine Att.attach_call hn hdf λw s₀ D mg mb fa o pm cd doc a vs ns G Y ho hd hcd B j hints hlen Z=>?_;obtain⟨KX,O⟩:=hY w _ Y;obtain⟨fd,hb,hF⟩:=F w mg fa _ KX G.T.g B (dXq KX G.T.g (J _));exact dXo KX G.T.g G.T.b G.T.builtins G.T.nolimit Z j hints (Nat.le_trans hlen (by decide)) ⟨rfl,by decide,by decide⟩ ⟨PySem.W.codeHd_of_K KX (U _),G.T.bmain⟩ O (z _) hF hb λH hP hS=>fZ1 hlen hP hS
end L2
namespace Toy
open PySem L2
abbrev s_first_of_longest:Stmt:=top 15
theorem aXy:FnScope ["found", "otherwise"] ["found", "otherwise"] (aQ3 s_first_of_longest):=fsc
abbrev lpos:Pos:=gZ4 s_first_of_longest
def eZt(pt:Addr):SpD:=λds S Q=>∃(d y:D) (xs:List D),ds=[d,y]/\S pt=some (.tb lpos (lamQual "first_of_longest"))/\sqIs S d xs/\okK xs/\Q (fQo y xs) S
section
variable{P:ax}{w:aK}{K:ar}{mg:Str->Option ab}{base:bb}{pt cc:Addr}
theorem aXz(T:Tx K mg "first_of_longest" s_first_of_longest)(B:Bs mg)(CD:bJz K mg "first_of_longest" cc)(TF:TabF base mg cc pt):Df P w K mg base 1 "first_of_longest" ["found", "otherwise"] (spU K (eZt pt)):=by
 refine gQn T CD aXy (λF=>F.binds λ_ _ _ _ _ _=>us2 λ_ _=>rfl) ?_ λf A outer s H E j=>⟨_,(aQ4 (aQb (gQm 1 j rfl B.min B.len TF (dv 0)))),?_⟩
 ·rintro ds S Q ⟨d,y,xs,rfl,_⟩;rfl
 ·rintro ds S Q ⟨d,y,xs,rfl,z,hs,ok,q⟩;exact⟨z,xs,hs,ok,aQ7 q⟩
end
abbrev s_greatest_flower:Stmt:=top 14
theorem sc_greatest_flower:FnScope ["sets", "found"] ["sets"] (aQ3 s_greatest_flower):=fsc
def grt(ts:List (List Str)):List (List Str)->D
 |[]=>.non
 |c::cs=>rowD ts (bst (lbs ts c) (cs.map (lbs ts)))
def eZu(pt:Addr):SpD:=λds S Q=>∃(ts:List (List Str)),ds=[.tup (ts.map tupS)]/\S pt=some (.tb lpos (lamQual "first_of_longest"))/\SrtT ts/\ts.length<=14/\(∀t∈ts,Srt t/\t.length<=12)/\∀out,SrtT out->(∀t,t∈out↔t∈mets ts)->Q (grt ts out) S
section
variable{P:ax}{w:aK}{K:ar}{mg:Str->Option ab}{base:bb}{pt cc:Addr}
theorem aJd(T:Tx K mg "greatest_flower" s_greatest_flower)(B:Bs mg)(d_most_beside:Df P w K mg base 38 "most_beside" ["sets", "core"] (spU K aXn))(d_cores_of_two:Df P w K mg base 38 "cores_of_two" ["sets"] (spU K aZi))(d_first_of_longest:Df P w K mg base 38 "first_of_longest" ["found", "otherwise"] (spU K (eZt pt))):Df P w K mg base 39 "greatest_flower" ["sets"] (spU K (eZu pt)):=by
 refine aZ9 T sc_greatest_flower (λF=>F.binds λ_ _ _ _ _ _=>us1 λ_=>rfl) ?_ λf Z A outer s H E z=>⟨_,(aQ2 (aJp (i:=1) rfl (a8 rfl) (oc:=none) (b:=false) [0] [] rfl sc_greatest_flower.nd (λ_ _ _=>aQg ..) (.own (.cap (i:=0) rfl (by decide +kernel) .nil)) (aQh rfl) (aZ0 (aQ5 d_cores_of_two z rfl (aQ0 (dv 0) aQ1))) (cg_name) (λ_ _ _ _ _=>aQa (nd_ ["core", "sets"]) rfl (a8 rfl) (.inr rfl)) (λ_ _ _ _ _=>aZ4) aQk (λ_ _ _ _ _ _=>aQj rfl (PD.o (aQ5 d_most_beside z rfl (aQ0 (dv 1) (aQ0 (dv 0) aQ1))))))
  (aQ4 (aQb (aQ5 d_first_of_longest z rfl (aQ0 (dv 1) (aQ0 bZ9 aQ1)))))),?_⟩
 ·rintro ds S Q ⟨ts,rfl,_⟩;rfl
 ·rintro ds S Q ⟨ts,rfl,U,hs,G,he,q⟩;refine⟨ts,rfl,G,λt j=>(he t j).2,λout os O=>?_⟩;have ol:=Nat.le_trans (os.nodup.length_le_of_subset λt j=>(O t).mp j) (bXz ts G);have bc:∀c∈out,∀r,MfS (hav ts c) (mtg (hav ts c) c) (-1) r->r=(lbs ts c).map (gT ts)/\lbs ts c≠[]/\∀i∈lbs ts c,i<ts.length:=λc J r z=>by
   obtain⟨h1,h2⟩:=bZ2 hs (λt j=>(he t j).1) ((O c).mp J);exact dX9 hs (λt j=>(he t j).1) h1 z (h2 r z)
  refine⟨_,rfl,aZo (f:=λc=>rowD ts (lbs ts c)) (λc J Q q=>⟨ts,c,rfl,hs,G,he,Nat.le_trans (cQ0 (λt j=>(he t j).2) ((O c).mp J)) (by decide),λr z=>?_⟩) (z9999 (by show 0+out.length<=_;lia)) ?_⟩
  ·rw[(bc c J r z).1];exact q
  rw[bW];have e:out.map (λc=>rowD ts (lbs ts c))=(out.map λc=>(lbs ts c).map (gT ts)).map λx=>D.tup (x.map tupS):=by rw[bg];rfl
  refine⟨_,_,_,rfl,U,rfl,by rw[e];exact gQr _,aQ7 ?_⟩
  have lt:=λc J=>by
   obtain⟨h1,h2⟩:=bZ2 hs (λt j=>(he t j).1) ((O c).mp J);exact gQo ts c
  have Y:fQo .non (out.map λc=>rowD ts (lbs ts c))=grt ts out:=by
   cases out with
   |nil=>rfl
   |cons c cs =>
    show bZc (rowD ts (lbs ts c)) (cs.map λc=>rowD ts (lbs ts c))=rowD ts (bst (lbs ts c) (cs.map (lbs ts)));rw[<- aJs hs _ _ (lt c (by simp)) (λr z=>?_),bg]
    ·rfl
    ·obtain⟨d,hd,rfl⟩:=aR.mp z;exact lt d (ak _ hd)
  rw[Y];exact q out os O
end
abbrev s_names_of:Stmt:=top 11
theorem sc_names_of:FnScope ["sets"] ["sets"] (aQ3 s_names_of):=fsc
section
variable{P:ax}{w:aK}{K:ar}{mg:Str->Option ab}{base:bb}{pt cc:Addr}
theorem cZ2(T:Tx K mg "names_of" s_names_of)(B:Bs mg):Df P w K mg base 1 "names_of" ["sets"] (spU K bQu):=by
 refine aZ9 T sc_names_of (λF=>F.binds λ_ _ _ _ _ _=>us1 λ_=>rfl) ?_ λf cdv A outer s H E Z=>⟨_,(aQ4 (aQb (aZc rfl B.tuple (aQ0 (fQ4 (oc:=none) (b:=false) [0,1] [1] Z rfl B.sorted rfl sc_names_of.nd (λ_ _ _=>cJ6 _ _ _ _ _ _ _ _ _ _ _ _) (.own (.own .nil)) (aQh rfl) (aZ0 (dv 0)) (cg_name) (λ_ _ _ _ _=>aQa (nd_ ["one", "name"]) rfl (a8 rfl) (.inr rfl)) (λ_ _ _ _ _=>aZ4) (dZo (cg_name) gQ8) (λ_ _ _ _ _ _=>bX2 (m:=λacc=>emitOfS _ acc _) rfl rfl rfl (λ_=>cJ7 _ _ _ _ _ _ _ _ _ _ _ _) (PID.o (aZ0 (dv 0))) (aQa (nd_ ["one", "name"]) rfl (a8 rfl) (.inr rfl)) (aZ4) (cX1 rfl (lt10 Z) rfl rfl rfl (PD.o (dv 1))) (λ_=>rfl) (λ_=>rfl) (λ_=>rfl) (λ_=>rfl) (λ_=>rfl))) aQ1)))),?_⟩
 ·rintro ds S Q ⟨ts,rfl,_⟩;rfl
 ·rintro ds S Q ⟨ts,rfl,hl,hs,h64,q⟩;have bound:∀l:List (List Str),(∀t∈l,t.length<=12)->l.flatten.length<=12*l.length:=by
   intro l
   induction l with
   |nil=>intro _;exact Nat.le_refl _
   |cons t l ih =>
    intro h;have h1:=h t ai;have h2:=ih λt G=>h t (ak _ G);rw[jx,au,az];lia
  refine⟨ts.map tupS,rfl,aJ6 (λi acc S'=>S'=S/\acc=((ts.take i).flatten).map D.str) ⟨rfl,rfl⟩ ?_ ?_⟩
  ·rintro i x acc S' N Y ⟨rfl,rfl⟩ hN;rw[aQ,bF] at Y;obtain⟨t,G,rfl⟩:=Y;refine⟨trivial,t.map D.str,rfl,aJ6 (λj acc O=>O=S'/\acc=((ts.take i).flatten++t.take j).map D.str) ⟨rfl,by rw[List.take_zero,ce]⟩ ?_ ?_⟩
   ·rintro j y acc O N2 U ⟨rfl,rfl⟩ J;rw[aQ,bF] at U;obtain⟨n,hn,rfl⟩:=U;refine⟨trivial,n,rfl,?_,J _ _ ⟨rfl,?_⟩⟩
    ·have b1:=bound (ts.take i) λt G=>hs t (c6 G);have b2:=hs t (am G);have hi:=(aH.mp G).1;rw[aP] at b1;rw[ah,au,aP];lia
    ·rw[cz,hn];simp
   ·rintro acc O ⟨rfl,rfl⟩;rw[ah,cx];refine⟨trivial,hN _ _ ⟨rfl,?_⟩⟩;rw[cz,G,fA];simp
  ·rintro acc S' ⟨rfl,rfl⟩;rw[ah,cx];refine⟨trivial,ts.flatten,rfl,λout nd mem=>?_⟩;have z:=λx=>(mem x).trans fF;refine⟨?_,λpw=>?_⟩
   ·have:out.length=(nms ts).length:=by
     rw[<- (aXf out).length_eq,eZg (dZs nd) λx=>mem_srS.trans (z x)]
    lia
   ·rw[eZg pw z];exact⟨_,rfl,aQ7 q⟩
end
theorem fm_all:(∀o∈s,Srt o)->Fm s c->∀a∈s,∀b∈s,a≠b->meG a b=c:=by
 induction s with
 |nil=>intro _ _ a ha;cases ha
 |cons x s D =>
  intro hs h a ha b B n;have h':=aN.mp h;rcases av.mp ha with rfl|z
  ·rcases av.mp B with rfl|j
   ·exact absurd rfl n
   ·exact h'.1 b j
  ·rcases av.mp B with rfl|j
   ·rw[me_comm (hs a ha) (hs b B)];exact h'.1 a z
   ·exact D (λo G=>hs o (ak _ G)) h'.2 a z b j n
theorem NF.up(h:NF m ts):NF (m+1) ts:=by
 rintro s nd sub sl ⟨c,z⟩;exact h (s.take m) (nd.sublist (cF _ _)) (λx j=>sub x ((cF _ _).subset j)) (by rw[aP];lia)
  ⟨c,λa D b B=>z a ((cF _ _).subset D) b ((cF _ _).subset B)⟩
theorem bZ5(hs:SrtT ts)(he:∀t∈ts,Srt t)(m2:2<=m)(hr:r.Sublist ts):aZf (flO ts m) r↔NF m r:=by
 constructor
 ·rintro h s nd sub sl ⟨c,B⟩;have mp:∀x,x∈ts.filter (λt=>decide (t∈s))↔x∈s:=λx=>by
   rw[ao,decide_eq_true_eq];exact⟨λh=>h.2,λh=>⟨hr.subset (sub x h),h⟩⟩
  have np:(ts.filter λt=>decide (t∈s)).Nodup:=hs.nodup.filter _;have pp:=(eV np nd).mpr mp;have G:∀o∈ts.filter (λt=>decide (t∈s)),Srt o:=λo z=>he o (cR.subset z);have pl:=pp.length_eq.trans sl;refine h _ (mem_flO.mpr ⟨pl,cR,?_⟩) λx j=>sub x ((mp x).mp j);rw[bM];exact⟨c,(bJw (by lia) np G).mpr (bX (λ{a b} O D n=>B a ((mp a).mp O) b ((mp b).mp D) n) np)⟩
 ·intro h b D j;obtain⟨h1,h2,U⟩:=mem_flO.mp D;obtain⟨c,B⟩:=bM.mp U;have nd:=hs.nodup.sublist h2;refine h b nd j h1 ⟨c,λx j y J n=>?_⟩;exact fm_all (λo z=>he o (h2.subset z)) ((bJw (by lia) nd (λo z=>he o (h2.subset z))).mp B) x j y J n
theorem eQj(hs:SrtT ts)(he:∀t∈ts,Srt t)(m2:2<=m)(h:MfS ts (flO ts m) ov r):NF m r:=(bZ5 hs he m2 h.sub).mp h.free
theorem eQk(hs:SrtT ts)(he:∀t∈ts,Srt t/\t.length=k)(m2:2<=m)(h:MfS ts (flO ts m) ov r):r.length<=fac k*(m-1)^k :=
 cQ1 m2 k r (hs.nodup.sublist h.sub) (λt j=>he t (h.sub.subset j)) (eQj hs (λt j=>(he t j).1) m2 h)
theorem fZ2(hs:SrtT ts)(he:∀t∈ts,Srt t)(m2:2<=m)(h:MfS ts (flO ts m) ov r){o:List Str}(ho:o∈ts)(hn:o∉r):¬ NF m (o::r):=by
 intro hf;have z:=hs.nodup.sublist h.sub;have mp:∀x,x∈ts.filter (λt=>decide (t∈o::r))↔x∈o::r:=λx=>by
  rw[ao,decide_eq_true_eq];refine⟨λh=>h.2,λj=>⟨?_,j⟩⟩;rcases av.mp j with e|e
  ·exact e▸ho
  ·exact h.sub.subset e
 have np:(ts.filter λt=>decide (t∈o::r)).Nodup:=hs.nodup.filter _;have pp:=(eV np (bo.mpr ⟨hn,z⟩)).mpr mp
 have:=h.most _ cR ((bZ5 hs he m2 cR).mpr λs nd sub sl=>hf s nd (λx j=>(mp x).mp (sub x j)) sl)
 rw[pp.length_eq,az] at this;lia
theorem gXw(hs:SrtT ts)(he:∀t∈ts,Srt t)(m2:2<=m)(h:MfS ts (flO ts m) ov r)(h':MfS ts (flO ts (m+1)) ov' r'):r.length<=r'.length :=
 h'.most _ h.sub ((bZ5 hs he (by lia) h.sub).mpr (eQj hs he m2 h).up)
theorem fZ3(hs:SrtT ts)(he:∀t∈ts,Srt t)(hs':SrtT ts')(he':∀t∈ts',Srt t)(m2:2<=m)(sub:ts.Sublist ts')(h:MfS ts (flO ts m) ov r)(h':MfS ts' (flO ts' m) ov' r'):r.length<=r'.length :=
 h'.most _ (h.sub.trans sub) ((bZ5 hs' he' m2 (h.sub.trans sub)).mpr (eQj hs he m2 h))
theorem dXr(hs:SrtT r)(he:∀t∈r,Srt t)(m2:2<=m):(flO r m).length=0↔NF m r:=by
 rw[<- bZ5 hs he m2 (fj r),eG];refine⟨λe b hb=>by (rw[e] at hb;cases hb),λh=>?_⟩
 match e:flO r m with
 |[]=>rfl
 |b::q =>
  have hb:b∈flO r m:=by rw[e];exact ai
  exact absurd (λx j=>(mem_flO.mp hb).2.1.subset j) (h b hb)
theorem NF.congr(e:∀x,x∈b->x∈a)(h:NF m a):NF m b:=λs nd sub sl=>h s nd (λx j=>e x (sub x j)) sl
theorem dXs(hs:SrtT ts)(he:∀t∈ts,Srt t)(m2:2<=m)(h:MfS ts (flO ts m) ov r){o:List Str}(ho:o∈ts)(hn:o∉r)
  (sp:SrtT p) (hp:∀x,x∈p↔x=o\/x∈r):(flO p m).length≠0:=by
 have ep:=λt B=>((hp t).mp B).elim (λe=>he t (e▸ho)) λj=>he t (h.sub.subset j);rw[Ne,dXr sp ep m2];exact λf=>fZ2 hs he m2 h ho hn (f.congr λx z=>(hp x).mpr (av.mp z))
end Toy
namespace L2
open PySem PySem.Spec PyProof.Rows
section
variable{X:Cx}
def gZ5(w:aK)(K:Fg):List V->Hp->VK->Prop:=λxs H Q=>∃x ds,xs=[x]/\dT K (dT K dS) H x ds/\ds.length+1<=300/\∀p ms H',Same H H'->ms.Nodup->(∀k,k∈ms↔k∈ds)->dSt w K H' (.ref p) ms->Q (.ref p) H'
theorem cZ3{K:Fg}{w:aK}(hu:X.A.units+8<bN)(hK:X.K=K:=by rfl)(hw:X.w=w:=by rfl)(hc:X.calm=true:=by rfl):CallR X (.type "set") (gZ5 w K):=by
 subst hK hw;intro pins s σ H xs us Q I r h;obtain⟨x,ds,rfl,⟨a,ys,rfl,Z,p⟩,hn,q⟩:=h;obtain⟨u,rfl,rx⟩:=aX3 r;cases rx;obtain⟨Y,J,pl,_⟩:=I.tuple Z;refine ST.call_setT (ST.restr (ST.tupKd X.prog X.w) λk v=>∃x,RelV x v/\dT X.K dS H x k) (I.ok.hd hc) hu pl (eQz I p J) (by rw[ay,<- J.length,p.length];exact hn) λh' U ms M _ hk=>?_
 obtain⟨es,ep,t,B,j,O⟩:=M.ex;obtain⟨ps,h1,h2⟩:=eJ3 O;have D:=I.hok.fresh (Nat.le_refl _);have G:Same H (upd H s.heap.objs.size (stO s.heap.objs.size es ep t)):=aQs D;refine⟨.ref s.heap.objs.size,_,I.laid (λb o e=>hk b o (aC e) e) (Nat.le_refl _) ?_,rfl,q _ _ _ G M.nd M.mem ⟨_,es,ep,t,ps,rfl,aQ6,(ST.tupKd X.prog X.w).fits B.1,j,λz=>?_,L2.Paired.imp (λ_ _ z=>⟨z.1,Mo.mo G z.2⟩) h1,h2⟩⟩
 ·refine⟨(ST.tupKd X.prog X.w).obj B.1,⟨_,(ST.tupKd X.prog X.w).obj B.1⟩,λg1 g2 g k=>k _ g⟩
 ·exact(ST.restr (ST.tupKd X.prog X.w) λk v=>∃x,RelV x v/\dT X.K dS H x k).few B O M.nd z
end
section
variable{X:Cx}{K:Fg}{pos:Pos}{k:Nat}{F:Am}{S:Sto}{H:Hp}
def eQl(b:Bool)(te:ED):ED:=fun Γ S Q=>te Γ S λd S1=>∃ts:List (List Str),d=.tup (ts.map tupS)/\ts.length<300/\∀out:List (List Str),out.Nodup->(∀t,t∈out↔t∈ts)->out.Pairwise (λa b=>HT.lexS a b=true)->newL b (out.map tupS) S1 Q
theorem cQ6{b:Bool}{e:Expr}{te:ED}{p p' pos':Pos}(hr:Room k X.A)(hg:Gl X "sorted")(hm:X.mg "sorted"=none)(hg':Gl X "set")(hm':X.mg "set"=none)(he:PD K X e te)(hK:X.K=K:=by rfl)(hc:X.calm=true:=by rfl)
  (h1:aD [e] X.env=(false,eval e X.env)::aD [] X.env:=by rfl) (h2:aD [Expr.Call (.Name "set" p') [e] [] pos'] X.env=(false,eval (Expr.Call (.Name "set" p') [e] [] pos') X.env)::aD [] X.env:=by rfl) (h3:(cM pos (aD [] X.env)).any (·.1)=false:=by rfl) (h4:(cM pos' (aD [] X.env)).any (·.1)=false:=by rfl) :
  PD K X (.Call (.Name "sorted" p) [.Call (.Name "set" p') [e] [] pos'] [] pos) (eQl b te) :=
 .of (aJ0 (aXk (lt64 hr) hK rfl hc) hg hm aJ1 (aXp (bQ9 (cZ3 (lt64 hr) hK rfl hc) hg' hm' eQp (aXp he.o bQ8 h1) (by decide) (by decide) h1 h4) bQ8 h2) (by decide) (by decide) h2 h3) fun σ H Q J=>J.el λF S Γ QD r g q c =>
 ⟨F,S,Γ,_,r,g,q,λv d H1 B U Z v1 G=>by
  obtain⟨Y,hl,z,q1⟩:=G;subst hl;obtain⟨a,us,rfl,sq,lu⟩:=tup.st v1;refine⟨_,Y,rfl,⟨a,us,rfl,sq,bXm lu⟩,by lia,λp ms H2 s2 nd mem st=>⟨_,ms,rfl,st,nd,?_,λl ys out j pm pw pp=>?_⟩⟩
  ·exact Nat.lt_of_le_of_lt (dQf nd mem).1 z
  ·have D:=Z.same s2;have O:Ext B H1 B H2:=Ext.same s2;exact Cn.new (Cn.shift c (U.trans O)) D j (bXo D pp) (q1 out (pm.nodup_iff.mpr nd) (λt=>(pm.mem_iff).trans (mem t)) pw)⟩
end
end L2
namespace L2
open PySem Toy
theorem betL(h:bet a b=false):a.length<=b.length:=by
 unfold bet at h
 by_cases e:a.length=b.length
 ·lia
 ·rw[if_neg e] at h
  have:=of_decide_eq_false h
  lia
theorem fZ4(he:∀t∈ts,Srt t)(h:c∈mets ts):1<(lbs ts c).length/\(lbs ts c).Sublist ((a4 ts.length).filter (okC ts c))/\Apr (λi=>lft c (gT ts i)) (lbs ts c):=by
 have ne:=gQs he h;unfold lbs at ne ⊢;rcases av.mp (bQw (((arC ts c ts.length).map (·.1)).filter λr=>decide (1<r.length)) []).1 with z|z
 ·exact absurd z ne
 ·obtain⟨B,j⟩:=ao.mp z;obtain⟨p,J,e⟩:=aR.mp B;obtain⟨G,_,D⟩:=(aX1 _ _ _ _).mp J;refine⟨of_decide_eq_true j,?_,?_⟩
  ·rw[<- e];exact G
  ·rw[<- e];exact D
theorem cXk(h:i<ts.length):gT ts i∈ts:=by
 show ts.getD i []∈ts;rw[aj,af h];exact eS h
theorem fZ5{I:List Nat}(h:I.Sublist (a4 ts.length)):(I.map (gT ts)).Sublist ts:=by
 have:=h.map (gT ts)
 rwa [<- bZ1] at this
theorem fZ6(hs:SrtT ts)(he:∀t∈ts,Srt t)(h:c∈mets ts):((lbs ts c).map (gT ts)).Sublist ts/\2<=((lbs ts c).map (gT ts)).length/\(coG ((lbs ts c).map (gT ts))).isSome=true:=by
 obtain⟨h1,h2,U⟩:=fZ4 he h;have sc:=(bZ2 hs he h).1;have sub:=fZ5 (h2.trans cR);have z:2<=((lbs ts c).map (gT ts)).length:=by rw[ah];exact h1
 refine⟨sub,z,?_⟩
 have:coG ((lbs ts c).map (gT ts))=some c:=(bJw z (hs.nodup.sublist sub) λo J=>he o (sub.subset J)).mpr (cV.mpr (bX (λ{i j} hi O ap=>?_) U))
 ·rw[this];rfl
 ·obtain⟨G,D⟩:=ao.mp (h2.subset hi);obtain⟨Y,B⟩:=ao.mp (h2.subset O);exact(aXc (he _ (cXk (bf.mp G))) sc D B).mpr ap
theorem fZ7(hs:SrtT ts)(he:∀t∈ts,Srt t)(hp:p.Sublist ts)(h2:2<=p.length)(hc:coG p=some c):c∈mets ts/\p.length<=(lbs ts c).length:=by
 have fm:=(bJw h2 (hs.nodup.sublist hp) λo ho=>he o (hp.subset ho)).mp hc;obtain⟨a,b,J⟩:=pair_sub h2;have eab:meG a b=c:=by
  have:=fm.sublist J
  exact(aN.mp this).1 b (by simp)
 have mc:c∈mets ts:=aR.mpr ⟨[a,b],aZp (J.trans hp),eab⟩;refine⟨mc,?_⟩;have sc:=(bZ2 hs he mc).1;rw[bZ1 ts] at hp;obtain⟨I,hI,rfl⟩:=List.sublist_map_iff.mp hp;have U:∀i∈I,i<ts.length:=λi hi=>bf.mp (hI.subset hi);have D:=cV.mp fm;have nI:=List.nodup_range.sublist hI;rw[ah] at h2;have Y:∀i∈I,has (gT ts i) c=true:=λi hi=>has_iff.mpr λx hx=>by
  have:∃j∈I,i≠j:=by
   obtain⟨u,v,B⟩:=pair_sub h2;have G:=nI.sublist B
   by_cases e:i=u
   ·exact⟨v,B.subset (by simp),λz=>by rw[<- e,<- z] at G;simp at G⟩
   ·exact⟨u,B.subset (by simp),e⟩
  obtain⟨j,Z,O⟩:=this;have al:=eZm (λa ha b hb e=>by rw[dXc (he _ (cXk (U b hb))) (he _ (cXk (U a ha)))];exact e) D i hi j Z O
  rw[<- al] at hx;exact(mem_me.mp hx).1
 have sI:I.Sublist ((a4 ts.length).filter (okC ts c)):=by
  have:=hI.filter (okC ts c)
  rwa [eK.mpr Y] at this
 have ap:=bX (λ{i j} hi Z e=>(aXc (he _ (cXk (U i hi))) sc (Y i hi) (Y j Z)).mp e) D;have mem:I∈[]::((arC ts c ts.length).map (·.1)).filter (λr=>decide (1<r.length)) :=
  ak _ (ao.mpr ⟨aR.mpr ⟨(I,(I.map λi=>lft c (gT ts i)).flatten),(aX1 _ _ _ _).mpr ⟨sI,rfl,ap⟩,rfl⟩,decide_eq_true (by lia)⟩)
 rw[ah];exact betL ((bQw _ []).2 _ mem)
structure Grt(ts g:List (List Str)):Prop where
 sub:g.Sublist ts
 two:2<=g.length
 flw:(coG g).isSome=true
 most:∀p,p.Sublist ts->(coG p).isSome=true->p.length<=g.length
theorem gZ6(he:∀t∈ts,Srt t)(hp:p.Sublist ts)(h:(coG p).isSome=true):2<=p.length:=((aXw λo j=>(he o (hp.subset j)).nodup).mp h).1
theorem fZ8{ts out:List (List Str)}(hs:SrtT ts)(he:∀t∈ts,Srt t)(om:∀t,t∈c::cs↔t∈mets ts):Grt ts ((bst (lbs ts c) (cs.map (lbs ts))).map (gT ts)):=by
 obtain⟨B,z⟩:=bQw (cs.map (lbs ts)) (lbs ts c);rw[show lbs ts c::cs.map (lbs ts)=(c::cs).map (lbs ts) from rfl] at B z
 generalize bst (lbs ts c) (cs.map (lbs ts))=R at B z;obtain⟨J,j,rfl⟩:=aR.mp B;obtain⟨f1,f2,G⟩:=fZ6 hs he ((om J).mp j);refine⟨f1,f2,G,λp D co=>?_⟩;obtain⟨d,hd⟩:=bM.mp co;obtain⟨md,ld⟩:=fZ7 hs he D (gZ6 he D co) hd;rw[ah];exact Nat.le_trans ld (betL (z _ (aR.mpr ⟨d,(om d).mpr md,rfl⟩)))
end L2
namespace L2
open PySem PySem.Spec PyProof.Rows
end L2
namespace L2
open PySem Toy
end L2
namespace Toy
open PySem L2
section
variable{L r:List (List Str)}(hs:SrtT L)(he:∀t∈L,Srt t)
include hs he
theorem fZ9(G:Grt L g){m:Nat}(m2:2<=m):0<(flO L m).length↔m<=g.length:=by
 rw[List.length_pos_iff_exists_mem];constructor
 ·rintro⟨s,hm⟩;obtain⟨h1,h2,B⟩:=mem_flO.mp hm
  have:=G.most s h2 B
  lia
 ·intro hm;obtain⟨c,z⟩:=bM.mp G.flw;have sub:=(cF m g).trans G.sub;have hl:(g.take m).length=m:=by rw[aP];lia
  have f:=((bJw G.two (hs.nodup.sublist G.sub) λo j=>he o (G.sub.subset j)).mp z).sublist (cF m g);refine⟨g.take m,mem_flO.mpr ⟨hl,sub,?_⟩⟩;rw[(bJw (by lia) (hs.nodup.sublist sub) λo j=>he o (sub.subset j)).mpr f]
  rfl
end
abbrev s_law_right:Stmt:=top 32
theorem sc_law_right:FnScope ["names", "k", "many", "size", "found", "every", "greatest", "one"] ["names", "k", "many"] (aQ3 s_law_right):=fsc
theorem eZv(b:Bool)(h:∀ Q:Bool->Sto->Prop,Q b S->tst Γ S Q)(ha:b=true->A E Γ S)(hb:b=false->B E Γ S):dIfS tst A B E Γ S:=h _ (by
 cases b with
 |true=>rw[if_pos rfl];exact ha rfl
 |false=>rw[if_neg (by simp)];exact hb rfl)
def aXo(pt:Addr):SpD:=λds S Q=>∃n k m:Nat,ds=[.int n,.int k,.int m]/\S pt=some (.tb lpos (lamQual "first_of_longest"))/\n<=6/\k<=6/\¬ (n=6/\k=3)/\2<=m/\m<=6/\Q (.bl true) S
section
variable{P:ax}{w:aK}{K:ar}{mg:Str->Option ab}{base:bb}{pt cc:Addr}
theorem cQ7(T:Tx K mg "_law_right" s_law_right)(B:Bs mg)(d_most_without:Df P w K mg base 39 "most_without" ["names", "k", "many"] (spU K aZh))(d_law_all_sets:Df P w K mg base 39 "_law_all_sets" ["names", "k"] (spU K aZg))(d_enough_sets:Df P w K mg base 39 "enough_sets" ["k", "many"] (spU K aXl))(d_count_flowers:Df P w K mg base 39 "count_flowers" ["sets", "many"] (spU K aZ8))(d_greatest_flower:Df P w K mg base 39 "greatest_flower" ["sets"] (spU K (eZu pt)))(d_names_of:Df P w K mg base 39 "names_of" ["sets"] (spU K bQu)):Df P w K mg base 40 "_law_right" ["names", "k", "many"] (spU K (aXo pt)):=by
 refine aZ9 T sc_law_right (λF=>F.binds λ_ _ _ _ _ _=>us3 λ_ _ _=>rfl) ?_ λf cdv A outer s H E J=>⟨_,(aQ2 (fJm (aQ5 d_most_without J rfl (aQ0 (dv 0) (aQ0 (dv 1) (aQ0 (dv 2) aQ1)))) (cZr rfl (aZm (aQv (i:=3) sc_law_right.nd rfl (a8 rfl)) (aZm (aQv (i:=4) sc_law_right.nd rfl (a8 rfl)) bXh))))
  (aQ2 (aQd (i:=5) sc_law_right.nd rfl (iC rfl) (aQ5 d_law_all_sets J rfl (aQ0 (dv 0) (aQ0 (dv 1) aQ1))))
  (aQ2 (aZy (PWD.pt (dJm (dQx J (dv 3) (bQ0 rfl B.len (aQ0 (dv 4) aQ1))) (dJm (dQx J (aZ5 (N':=["one", "every"]) (oc:=none) (b:=false) [0] [] rfl sc_law_right.nd (λ_ _ _=>aQg ..) (.own (.cap (i:=5) rfl (by decide +kernel) .nil)) (aQh rfl) (aZ0 (dv 4)) (cg_name (i:=0)) (λ_ _ _ _ _=>aQa (i:=0) (nd_ ["one", "every"]) rfl (a8 rfl) (.inr rfl)) (λ_ _ _ _ _=>aQw (by exact(cZp J (dv 0) (dv 1)))) aQk (λ_ _ _ _ _ _=>aQj rfl (by exact PD.o (dv 0)))) (bJo (b:=false) aQ1)) (dZ0 (dQx J (dv 4) (aZc rfl B.tuple (aQ0 (cQ6 (b:=false) J rfl B.sorted rfl B.set (dv 4)) aQ1))))))) (aQ4 (aQb e_bl)) aQq)
  (aQ2 (aZy (eJg J (dv 3) (aQ5 d_enough_sets J rfl (aQ0 (dv 1) (aQ0 (dv 2) aQ1)))) (aQ4 (aQb e_bl)) aQq)
  (aQ2 (aZy (eJg J (dv 3) aQ8) (aQ4 (aQb e_bl)) aQq)
  (aQ2 (aZy (dQx J (aQ5 d_count_flowers J rfl (aQ0 (dv 4) (aQ0 (dv 2) aQ1))) aQ8) (aQ4 (aQb e_bl)) aQq)
  (aQ2 (aQd (i:=6) sc_law_right.nd rfl (a8 rfl) (aQ5 d_greatest_flower J rfl (aQ0 (dv 4) aQ1)))
  (aQ2 (aZy (PWD.pt (bQl (cQq J (dv 6) bZ9) (aJl (eJh J (bQ0 rfl B.len (aQ0 (dv 6) aQ1)) (dv 2))))) (aQ4 (aQb e_bl)) aQq)
  (aQ2 (aXj du rfl (aZ0 (dv 5)) (aQv (i:=7) sc_law_right.nd rfl (a8 rfl)) (aQ4 (aZy (PWD.pt (bQl (cZp J (dv 7) (dv 4)) (aJl (cJ1 J (aQ5 d_count_flowers J rfl (aQ0 (aZc rfl B.tuple (aQ0 (bXn (b:=false) J rfl B.sorted (aQ0 (aZk (k:=false) (dv 4) (aX6 (aQ0 (dv 7) aQ1))) aQ1)) aQ1)) (aQ0 (dv 2) aQ1))) aQ8)))) (aQ4 (aQb e_bl)) aQq)))
  (aQ4 (aQb (e_or (e_eq J (dv 3) aQ8) (e_or (e_ne J (aQ5 d_names_of J rfl (aQ0 (dv 4) aQ1)) (aX6 aQ1)) (fJe (e_eq J (dv 1) aQ8))))))))))))))),?_⟩
 ·rintro ds S Q ⟨n,k,m,rfl,_⟩;rfl
 ·rintro ds S Q ⟨n,k,m,rfl,hP,hn,hk,hnk,U,m6,q⟩;have hs:=cXd hn (k:=k) (by omega)
  have he:=bQx hn (k:=k) (by omega)
  have l15:=eZi hn (k:=k) (by omega) hnk
  refine⟨n,k,m,rfl,hn,by omega,hnk,U,m6,λr J=>?_⟩
  have O:SrtT r:=hs.sublist J.sub;have l16:=J.sub.length_le;have hre:∀t∈r,Srt t/\t.length=k:=λt j=>⟨(he t (J.sub.subset j)).1,(Toy.ch_mem (J.sub.subset j)).1⟩;have bnd:=eQk hs (λt j=>⟨(he t j).1,(Toy.ch_mem j).1⟩) U J;have nf:=eQj hs (λt j=>(he t j).1) U J;refine⟨rfl,rfl,n,k,rfl,hn,by omega,?_⟩
  have okr:∀us:List (List Str),okE 9 (.tup (us.map tupS)) (.tup (us.map tupS))=true:=λus=>flE.ok 9 us us (by decide)
  refine⟨_,rfl,?_⟩;show eqD true (.int (r.length:Nat)) (.int ((r.map tupS).length:Nat)) S _;rw[ah];refine⟨rfl,false,dX3 rfl,?_⟩;refine ite2 (λh=>nomatch h) λ_=>?_
  have inS:∀t∈r,t∈as n k:=λt j=>J.sub.subset j;have zn:∀l:List D,okE 9 (.lst l) (.lst [])=true:=λl=>by
   show(l.zip []).all _=true;rw[d8];rfl
  refine⟨_,rfl,aQm (p:=λt=>!decide (t∈as n k)) (f:=tupS) (λt j Q q=>⟨_,rfl,aXv _,okT t _,_,rfl,by rw[show(decide (tupS t∈(as n k).map tupS))=decide (t∈as n k) from by congr 1;exact propext (fQa (E:=setE))];exact q⟩) (λt j hp Q q=>q) (z9999 (by rw[cg];omega)) ?_⟩
  have en:r.filter (λt=>!decide (t∈as n k))=[]:=dP.mpr λt j=>by rw[decide_eq_true (inS t j)];decide
  rw[en];refine⟨z9999 (by decide),zn _,false,dX3 rfl,?_⟩
  refine ite2 (λh=>nomatch h) λ_=>?_
  refine⟨r,rfl,by omega,λout no mo so=>?_⟩
  have eo:out=r:=SrtT.ext so O λt=>mo t;subst eo;refine⟨_,rfl,okr out,false,dX3 rfl,?_⟩;refine ite2 (λh=>nomatch h) λ_=>?_
  refine⟨k,m,rfl,by omega,U,by omega,?_⟩
  have eb:decide (((out.length:Nat):Int)>((fac k*(m-1)^k:Nat):Int))=false:=decide_eq_false (by omega)
  refine⟨_,rfl,?_⟩;rw[eb];refine ite2 (λh=>nomatch h) λ_=>?_
  refine⟨_,rfl,?_⟩;refine ite2 (λh=>aQ7 q) λh13=>?_;have l13:out.length<=13:=by
   have h:=of_decide_eq_false (eq_false_of_ne_true h13);omega
  have Z:∀t∈out,Srt t/\t.length<=6:=λt j=>⟨(hre t j).1,by rw[(hre t j).2];exact hk⟩
  refine⟨out,m,rfl,by omega,O,Z,U,?_⟩
  have z0:(flO out m).length=0:=(dXr O (λt j=>(Z t j).1) U).mpr nf;rw[z0];refine⟨rfl,false,dX3 rfl,?_⟩;refine ite2 (λh=>nomatch h) λ_=>?_
  refine⟨out,rfl,hP,O,by omega,λt j=>⟨(Z t j).1,by have:=(Z t j).2;omega⟩,λo so mo=>?_⟩
  have hg:grt out o=.non\/∃l:List (List Str),grt out o=.tup (l.map tupS)/\l.length<m:=by
   cases o with
   |nil=>exact .inl rfl
   |cons c cs =>
    have G:=fZ8 (out:=[]) O (λt j=>(Z t j).1) mo;refine .inr ⟨_,rfl,?_⟩
    have:=fZ9 O (λt j=>(Z t j).1) G U
    omega
  generalize grt out o=g at hg;refine eZv (tst:=dAnd (aZj (dOp (isD true) (dVar 6) (dC D.non))) (aZj (dOp geD (dCB lenD (cQn (dVar 6) dNil)) (dVar 2)))) (A:=dRet (dC (D.bl false))) (B:=eJk) (Γ:=[some (.int (n:Nat)),some (.int (k:Nat)),some (.int (m:Nat)),some (.int (out.length:Nat)),some (.tup (out.map tupS)),some (.lst ((as n k).map tupS)),some g,none]) false (λQ h=>?_) (λh=>nomatch h) λ_=>?_
  ·rcases hg with rfl|⟨l,rfl,hl⟩
   ·exact⟨_,rfl,h⟩
   ·refine⟨_,rfl,_,rfl,?_⟩;refine⟨_,rfl,?_⟩;rw[ah,decide_eq_false (show ¬ ((l.length:Nat):Int)>=((m:Nat):Int) by omega)]
    exact h
  ·refine⟨_,rfl,aZt (λt Γ S'=>∃x7:Option D,Γ=[some (.int (n:Nat)),some (.int (k:Nat)),some (.int (m:Nat)),some (.int (out.length:Nat)),some (.tup (out.map tupS)),some (.lst ((as n k).map tupS)),some g,x7]/\S'=S) ⟨none,rfl,rfl⟩ ?_ ?_⟩
   ·rintro t x Γ S' N hx ⟨x7,rfl,rfl⟩ hN;rw[aQ,bF] at hx;obtain⟨one,hx,rfl⟩:=hx;have ho:=am hx;have nx:=hN _ S' ⟨some (tupS one),rfl,rfl⟩;refine⟨trivial,?_⟩;refine eZv false (λQ h=>?_) (λh=>nomatch h) λ_=>nx
    have em:decide (tupS one∈out.map tupS)=decide (one∈out):=by congr 1;exact propext (fQa (E:=setE))
    refine⟨_,rfl,aXv _,okT one _,_,rfl,?_⟩;rw[em]
    by_cases Y:one∈out
    ·rw[decide_eq_true Y];exact h
    ·rw[decide_eq_false Y];refine ite2 (λ_=>?_) λz=>absurd rfl z;have nd:(out++[one]).Nodup:=fh.mpr ⟨O.nodup,by simp,λa ha b hb e=>by rw[aJ] at hb;subst hb;subst e;exact Y ha⟩
     have mm:∀x,x∈srT (out++[one])↔x=one\/x∈out:=λx=>by rw[dZt,aY,aJ];exact Or.comm
     have sl:(srT (out++[one])).length<=14:=by
      rw[(aXg (out++[one])).length_eq,au];show out.length+1<=14;omega
     have z1:=dXs hs (λt j=>(he t j).1) U J ho Y (cQv nd) mm;refine⟨z9999 (by show 1<=9999;decide),z9999 (by rw[ah];show out.length+1<=9999;omega),.inr (.inr ⟨out++[one],by rw[bK];rfl,_,rfl,srT (out++[one]),m,rfl,sl,cQv nd,λt j=>?_,U,?_⟩)⟩
     ·have ht':=((mm t).mp j).elim (λe=>e▸ho) (inS t);exact⟨(he t ht').1,by rw[(Toy.ch_mem ht').1];exact hk⟩
     ·refine⟨rfl,false,?_,h⟩;rw[if_neg (by decide),decide_eq_false λe=>z1 (by injection e with e;omega)]
   ·rintro Γ S' ⟨x7,rfl,rfl⟩;refine⟨trivial,?_⟩
    by_cases z:out.length=0
    ·refine⟨rfl,true,by rw[z];rfl,?_⟩
     exact aQ7 q
    ·refine⟨rfl,false,congrArg D.bl (decide_eq_false (λe=>z (by injection e with e;omega))),iteF ?_⟩
     have lo:∀t∈out,t.length<=12:=λt j=>by have:=(Z t j).2;omega
     have n6:(nms out).length<=6:=by
      refine Nat.le_trans ((dZu out).nodup.length_le_of_subset (l₂:=lt6 n) λx hx=>?_) (by unfold lt6;rw[aP];exact Nat.min_le_right _ _)
      obtain⟨t,j,hxt⟩:=mem_nms.mp hx;exact(Toy.ch_mem (inS t j)).2.subset hxt
     refine⟨out,rfl,by omega,lo,by omega,z9999 (by decide),?_⟩
     have zt:∀l:List D,okE 9 (.tup l) (.tup [])=true:=λl=>by
      show(l.zip []).all _=true;rw[d8];rfl
     refine⟨zt _,?_⟩
     by_cases e:nms out=[]
     ·refine⟨false,dX3 (by rw[e];rfl),iteF ⟨rfl,?_⟩⟩
      have k0:k=0:=by
       cases out with
       |nil=>exact absurd rfl z
       |cons t ts =>
        have h:=hre t ai;cases t with
        |nil=>exact h.2.symm
        |cons x xs =>
         have:x∈nms ((x::xs)::ts):=mem_nms.mpr ⟨_,ai,ai⟩
         rw[e] at this;cases this
      subst k0;exact aQ7 q
     ·refine⟨true,gXk (λh=>e ?_),iteT (aQ7 q)⟩;cases h':nms out with
      |nil=>rfl
      |cons a b=>rw[h'] at h;cases h
end
abbrev bJ4:Stmt:=top 33
theorem sc_law:FnScope ["script", "turn", "number", "names", "k", "many", "size"] ["script"] (aQ3 bJ4):=fsc
theorem truB(h:k b):truD S (.bl b) k:=h
theorem dXt{A B:Prop}(h:b=true->A)(h':b=false->B):if b=true then A else B:=by
 cases b with
 |true=>rw[if_pos rfl];exact h rfl
 |false=>rw[if_neg (by simp)];exact h' rfl
theorem gZ7:∀n,n<7->∀k,k<7->k<=n->(as n k).length<16\/(n=6/\k=3):=by decide +kernel
theorem fZa:∀n,n<6->∀k,k<8->(as n k).isSublist (as (n+1) k)=true:=by decide +kernel
theorem gZ8(hn:n<6)(hk:k<8):(as n k).Sublist (as (n+1) k):=List.isSublist_iff_sublist.mp (fZa n hn k hk)
section
variable{P:ax}{w:aK}{K:ar}{mg:Str->Option ab}{base:bb}{pt cc:Addr}
theorem gZ9{f:Addr}{fd:dE}(Fn:Fun K "law" "law" bJ4 f fd)(B:Bs mg)(d_law_number:Df P w K mg base 49 "_law_number" ["script", "k"] (spU K bZv))(d_law_few:Df P w K mg base 49 "_law_few" ["names", "k"] (spU K aJy))(d_law_right:Df P w K mg base 49 "_law_right" ["names", "k", "many"] (spU K (aXo pt)))(d_most_without:Df P w K mg base 49 "most_without" ["names", "k", "many"] (spU K aZh)):FnOk P w K mg base CX0 50 f fd ["script"] (spU K (cXj pt lpos (lamQual "first_of_longest") 63)):=by
 refine e_fn Fn sc_law ?_ λcdv A outer s H E G=>⟨_,(aQ2 (aXj du rfl (bQm rfl B.range (aQ0 aQ8 aQ1)) (aQv (i:=1) sc_law.nd rfl (a8 rfl)) (aQ2 (aQd (i:=2) sc_law.nd rfl (a8 rfl) (aQ5 d_law_number G rfl (aQ0 (dv 0) (aQ0 (dv 1) aQ1))))
  (aQ2 (aQd (i:=3) sc_law.nd rfl (a8 rfl) (bZa (dv 2) aQ8))
  (aQ2 (aQd (i:=4) sc_law.nd rfl (a8 rfl) (bZa (bJn (dv 2) aQ8) (aZk (k:=false) (dv 3) aQ8)))
  (bQr (aZy (bZr (aJ4 (aQ5 d_law_few G rfl (aQ0 (dv 3) (aQ0 (dv 4) aQ1))))) (aQ4 (aQd (i:=4) sc_law.nd rfl (a8 rfl) aQ8)) aQq)
  (aQ2 (aQd (i:=5) sc_law.nd rfl (a8 rfl) (aZk (k:=false) aQ8 (bZa (bJn (dv 2) aQ8) aQ8)))
  (aQ2 (aZy (bZr (aJ4 (aQ5 d_law_right G rfl (aQ0 (dv 3) (aQ0 (dv 4) (aQ0 (dv 5) aQ1)))))) (aQ4 (aQb e_bl)) aQq)
  (aQ2 (aQd (i:=6) sc_law.nd rfl (a8 rfl) (e_ix (aQ5 d_most_without G rfl (aQ0 (dv 3) (aQ0 (dv 4) (aQ0 (dv 5) aQ1)))) aQ8))
  (bQr (aZy (PWD.pt (bQl (aJ4 (aQ5 d_law_few G rfl (aQ0 (aZk (k:=false) (dv 3) aQ8) (aQ0 (dv 4) aQ1)))) (aJl (bXf G (e_ix (aQ5 d_most_without G rfl (aQ0 (aZk (k:=false) (dv 3) aQ8) (aQ0 (dv 4) (aQ0 (dv 5) aQ1)))) aQ8) (dv 6))))) (aQ4 (aQb e_bl)) aQq)
  (aQ4 (aZy (PWD.pt (bQl (bXf G (dv 5) aQ8) (aJl (bXf G (e_ix (aQ5 d_most_without G rfl (aQ0 (dv 3) (aQ0 (dv 4) (aQ0 (aZk (k:=false) (dv 5) aQ8) aQ1)))) aQ8) (dv 6))))) (aQ4 (aQb e_bl)) aQq)))))))))))
  (aQ4 (aQb e_bl))),?_⟩
 ·rintro ds S Q ⟨ns,rfl,_⟩;rfl
 ·rintro ds S Q ⟨ns,rfl,h63,hP,hS,q⟩;refine⟨⟨by decide,by decide⟩,?_⟩
  refine aZt (λi Γ S'=>∃(x1 x2 x3 x4 Z Y:Option D),Γ=[some (.lst (ns.map D.int)),x1,x2,x3,x4,Z,Y]/\S'=S) ⟨none,none,none,none,none,none,rfl,rfl⟩ ?_ ?_
  ·rintro i x Γ S2 N hx ⟨x1,x2,x3,x4,Z,Y,rfl,rfl⟩ hN;obtain⟨hi,rfl⟩:=eZd hx;have hi2:i<2:=hi;refine⟨trivial,ns,(i:Int),rfl,h63,by omega,by omega,λj n0 n1=>?_⟩
   obtain⟨n,en,O⟩:∃n:Nat,j%7=n/\n<=6:=⟨(j%7).toNat,by omega,by omega⟩
   obtain⟨k,ek,kn⟩:∃k:Nat,j/7%((n:Int)+1)=k/\k<=n:=⟨(j/7%((n:Int)+1)).toNat,by have:=md (a:=j/7) (show(0:Int)<(n:Int)+1 by omega);omega,by have:=md (a:=j/7) (show(0:Int)<(n:Int)+1 by omega);omega⟩
   obtain⟨m,em,m2,m6⟩:∃m:Nat,2+j/100%5=m/\2<=m/\m<=6:=⟨(2+j/100%5).toNat,by omega,by omega,by omega⟩
   refine⟨by show(0:Int)<7;decide,?_⟩
   show dSeq _ _ _ [some (.lst (ns.map D.int)),some (.int (i:Nat)),some (.int j),some (.int (j%7)),x4,Z,Y] _;rw[en];refine⟨⟨by decide,by decide⟩,by show(0:Int)<(n:Int)+1;omega,?_⟩
   show dSeq _ _ _ [some (.lst (ns.map D.int)),some (.int (i:Nat)),some (.int j),some (.int (n:Nat)),some (.int (j/7%((n:Int)+1))),Z,Y] _;rw[ek];have few:∃z:Nat,z<=6/\¬ (n=6/\z=3)/\z=if (as n k).length<16 then k else 2:=by
    rcases gZ7 n (by omega) k (by omega) kn with h|⟨rfl,rfl⟩
    ·rw[if_pos h];exact⟨k,by omega,λ⟨h1,h2⟩=>absurd h (by subst h1 h2;decide +kernel),rfl⟩
    ·exact⟨2,by decide,by decide,by decide +kernel⟩
   obtain⟨z,k6,nk,J⟩:=few;refine⟨fun Γ' S'=>S'=S2/\Γ'=[some (.lst (ns.map D.int)),some (.int i),some (.int j),some (.int n),some (.int z),Z,Y],?_,?_⟩
   ·refine⟨n,k,rfl,by lia,by lia,?_⟩
    rw[decide_eq_true (O),eQ]
    by_cases h:(as n k).length<16
    ·rw[if_pos h] at J;subst J;rw[decide_eq_true h];refine truB ?_;exact ite2 (λh=>nomatch h) λ_=>⟨rfl,rfl⟩
    ·rw[if_neg h] at J;subst J;rw[decide_eq_false h];refine truB ?_;exact ite2 (λ_=>⟨rfl,rfl⟩) λh=>absurd rfl h
   rintro Γ S' ⟨rfl,rfl⟩;refine⟨⟨by decide,by decide⟩,by show(0:Int)<5;decide,?_⟩
   dsimp only[addD,aQx];rw[em];have he:=bQx O (k:=z) (by lia)
   have hs:=cXd O (k:=z) (by lia)
   refine⟨n,z,m,rfl,hP,O,k6,nk,m2,m6,truB (ite2 (λh=>nomatch h) λ_=>?_)⟩
   refine⟨n,z,m,rfl,O,by lia,nk,m2,m6,λr G=>?_⟩
   have nx:=hN [some (.lst (ns.map D.int)),some (.int i),some (.int j),some (.int n),some (.int z),some (.int m),some (.int r.length)] S' ⟨_,_,_,_,_,_,rfl,rfl⟩;have each:∀{a b:Nat},a<=6->b<=6->∀t∈as a b,Srt t:=λha hb t ht=>(bQx ha (by lia) t ht).1
   refine⟨_,_,rfl,rfl,fun Γ' S2=>S2=S'/\Γ'=[some (.lst (ns.map D.int)),some (.int i),some (.int j),some (.int n),some (.int z),some (.int m),some (.int r.length)],?_,?_⟩
   ·refine⟨n+1,z,rfl,by lia,by lia,truB ?_⟩
    refine dXt (λh=>?_) λh=>⟨rfl,rfl⟩;rw[aV,decide_eq_true_eq,decide_eq_true_eq] at h;have nk2:¬ (n+1=6/\z=3):=λ⟨h1,h2⟩=>absurd h.2 (by rw[h1,h2];decide +kernel)
    refine⟨n+1,z,m,rfl,h.1,by lia,nk2,m2,m6,λr' U=>?_⟩
    have:=fZ3 hs (each O k6) (cXd h.1 (by lia)) (each h.1 k6) m2 (gZ8 (by lia) (by lia)) G U
    refine⟨_,_,rfl,rfl,_,rfl,?_⟩;rw[decide_eq_false (by lia)]
    exact ite2 (λh=>nomatch h) λ_=>⟨rfl,rfl⟩
   rintro Γ S2 ⟨rfl,rfl⟩;refine⟨_,rfl,?_⟩;refine dXt (λh=>?_) λh=>nx;have h:=of_decide_eq_true h;refine⟨n,z,m+1,rfl,O,by lia,nk,by lia,by lia,λr' U=>?_⟩
   have:=gXw hs (each O k6) m2 G U
   refine⟨_,_,rfl,rfl,_,rfl,?_⟩;rw[decide_eq_false (by lia)]
   exact ite2 (λh=>nomatch h) λ_=>nx
  ·rintro Γ S' ⟨x1,x2,x3,x4,Z,Y,rfl,rfl⟩;exact⟨trivial,aQ7 (q _)⟩
end
end Toy
set_option maxHeartbeats 4000000
namespace Toy
open PySem L2
theorem fin{l:PySem.W.OpenLaw}(X:K.In h)(G:h.Ns aX mg)(hfa:mg "law"=some (.ref fa))(B:Bs mg){cc pt:Addr}(CD:bJz K mg "first_of_longest" cc)(LT:mg "LETTERS"=some (.str bXr tk))
  (T1:Tx K mg "has_all" s_has_all) (T2:Tx K mg "meets" s_meets) (T3:Tx K mg "meet_of" s_meet_of) (T4:Tx K mg "without_names" s_without_names) (T5:Tx K mg "choices_of" s_choices_of) (T6:Tx K mg "core_of" s_core_of) (T7:Tx K mg "names_of_all" s_names_of_all) (T8:Tx K mg "names_of" s_names_of) (T9:Tx K mg "link_of" s_link_of) (T10:Tx K mg "greatest_flower" s_greatest_flower) (T11:Tx K mg "first_of_longest" s_first_of_longest) (T12:Tx K mg "count_flowers" s_count_flowers) (T13:Tx K mg "count_with_core" s_count_with_core) (T14:Tx K mg "count_apart" s_count_apart) (T15:Tx K mg "flowers_of" s_flowers_of) (T16:Tx K mg "cores_of_two" s_cores_of_two) (T17:Tx K mg "most_beside" s_most_beside) (T18:Tx K mg "most_free" s_most_free) (T19:Tx K mg "most_free_with" s_most_free_with) (T20:Tx K mg "most_without" s_most_without) (T21:Tx K mg "enough_sets" s_enough_sets) (T22:Tx K mg "_law_number" s_law_number) (T23:Tx K mg "_law_all_sets" s_law_all_sets) (T24:Tx K mg "_law_few" s_law_few) (T25:Tx K mg "_law_right" s_law_right)
  {od3 an3:Option Addr}{sl3:Array (Option ab)}{oc3 kV3 dc3 pm3 cd3 ct3:ab}
  (a3:bO K aX "law"=some (some (.ref f3))) (l3:K.lookup f3=some ⟨oc3,od3,.func (fc "law" "law" (aXq bJ4) (aZ6 bJ4) (aQ3 bJ4) .none kV3 dc3 pm3 an3 cd3 ct3),sl3⟩) (c3:g6 K cd3 "law"=true) (k3:gb K (.ref f3)=true) :
  ∃fd:dE,(∀(s:ag) (v:ab),BindsTo s fd ⟨[v],[]⟩ [("script",v)])/\∀base:bb,K.In base->base.Ns aX mg->TabF base mg cc pt->FnOk l.prog w K mg base CX0 50 fa fd ["script"] (spU K (cXj pt lpos (lamQual "first_of_longest") 63)):=by
 have e:=hfa.symm.trans (jC X G a3);cases e;refine⟨fc "law" "law" (aXq bJ4) (aZ6 bJ4) (aQ3 bJ4) .none kV3 dc3 pm3 an3 cd3 ct3,λs v=>.of_eq rfl,λbase XB GB TF=>?_⟩;have F3:=eQn l3 c3 k3;have d_law_number:=bXv (P:=l.prog) (w:=w) (base:=base) T22 B;have J:=bQy (P:=l.prog) (w:=w) (base:=base) T23 B;have d_law_few:=cJb T24 B (J.mono (by decide))
 have z:=bXx (P:=l.prog) (w:=w) (base:=base) T5 B;have j:=bQ1 (P:=l.prog) (w:=w) (base:=base) T4 B;have d_meets:=eQ4 (P:=l.prog) (w:=w) (base:=base) T2 B;have d_most_free:=bJx T18 B T19 (j.mono (by decide)) (d_meets.mono (by decide))
 have d_names_of_all:=bQz (P:=l.prog) (w:=w) (base:=base) T7 B;have d_core_of:=cJd T6 B (d_names_of_all.mono (by decide)) (j.mono (by decide))
 have d_flowers_of:=bXy T15 B (z.mono (by decide)) (d_core_of.mono (by decide))
 have D:=bZ0 T20 B LT (z.mono (by decide)) (d_most_free.mono (by decide)) (d_flowers_of.mono (by decide))
 have d_enough_sets:=bZd (P:=l.prog) (w:=w) (base:=base) T21 B;have d_meet_of:=cJf (P:=l.prog) (w:=w) (base:=base) T3 B;have O:=bZ3 T16 B (z.mono (by decide)) (d_meet_of.mono (by decide))
 have d_has_all:=cJg (P:=l.prog) (w:=w) (base:=base) T1 B;have d_link_of:=cJh T9 B (d_has_all.mono (by decide)) (j.mono (by decide))
 have d_count_apart:=bZe T14 B (d_meets.mono (by decide))
 have Z:=aJc T13 B (d_link_of.mono (by decide)) (d_count_apart.mono (by decide))
 have d_count_flowers:=bQ2 T12 B (O.mono (by decide)) (Z.mono (by decide))
 have d_most_beside:=bZf T17 B (d_has_all.mono (by decide)) (z.mono (by decide)) (d_meet_of.mono (by decide)) (d_most_free.mono (by decide))
 have U:=aXz (P:=l.prog) (w:=w) T11 B CD TF;have Y:=aJd T10 B (d_most_beside.mono (by decide)) (O.mono (by decide)) (U.mono (by decide))
 have d_names_of:=cZ2 (P:=l.prog) (w:=w) (base:=base) T8 B;have d_law_right:=cQ7 T25 B (D.mono (by decide)) (J.mono (by decide)) (d_enough_sets.mono (by decide)) (d_count_flowers.mono (by decide)) (Y.mono (by decide)) (d_names_of.mono (by decide))
 exact gZ9 F3 B (d_law_number.mono (by decide)) (d_law_few.mono (by decide)) (d_law_right.mono (by decide)) (D.mono (by decide))
end Toy
namespace PySem.W.Fast
theorem tw10414326689242657655:True:=⟨⟩
theorem tw2099102780658578778:True:=⟨⟩
theorem tw1093311721870407282:True:=⟨⟩
theorem tw2641260596652032667:True:=⟨⟩
theorem tw1368889484291597469:True:=⟨⟩
theorem tw10191938065678715352:True:=⟨⟩
theorem tw9774630195646244568:True:=⟨⟩
theorem tw9465566028389672790:True:=⟨⟩
theorem tw14055106192820680129:True:=⟨⟩
theorem tw7924241996574077756:True:=⟨⟩
theorem tw9849891363701190956:True:=⟨⟩
end PySem.W.Fast
open PySem PySem.W PyProof.Rows
set_option maxRecDepth 100000 in
set_option maxHeartbeats 0 in
theorem PySem.Challenge.cw_corepetals_k21_whole_most_without_holds : PySem.Challenge.rw_corepetals_k21_whole_most_without.Holds := by
 w_on;o_law;k_head;(case hw=>w_witness2)
 k_fill
 refine L2.walkT (l:=PySem.Challenge.rw_corepetals_k21_whole_most_without) (x:="first_of_longest") (lp:=Toy.lpos) (qual:=L2.lamQual "first_of_longest") rfl rfl (λw h Y=>⟨PySem.W.km_in_of Y,PySem.W.km_tabs_of Y _ ai⟩) ?R;refine' ⟨_,?ht,?hh,?hno,?F⟩
 case ht =>
  intro p;refine' L2.codeIn_mk ?a ?l ?e
  (case a=>k_is);(case l=>k_is);(case e=>rfl)
 case hh=>intro p;kernel_rfl
 case hno=>intro p;first|rfl|kernel_rfl
 case F =>
  intro w mg fa h KX G hmg CD;have B:L2.Bs mg:=by
   refine' L2.bs_mk KX G (L2.bs_all ?z1 ?z2 ?z3 ?z4 ?z5 ?z6 ?z7 ?z8 ?z9 ?z10 ?z11 ?z12 ?z13 ?z14 ?z15 ?z16 ?z17) <;> k_is
  have LT:∃tk,mg "LETTERS"=some (.str (PySem.Str.ofString "abcdefghijklmnopqrstuvwxyz") tk):=by
   refine' L2.gl_str KX G ?a ?b
   (case a=>k_is);(case b=>exact⟨_,rfl⟩)
  obtain⟨tk,LT⟩:=LT;have T1:L2.Tx (L2.KOf KX) mg "has_all" Toy.s_has_all:=by
   dsimp only[L2.KOf];exact L2.tx_mk KX G (by k_is) (by k_is) (by k_is) (by k_is)
  have T2:L2.Tx (L2.KOf KX) mg "meets" Toy.s_meets:=by
   dsimp only[L2.KOf];exact L2.tx_mk KX G (by k_is) (by k_is) (by k_is) (by k_is)
  have T3:L2.Tx (L2.KOf KX) mg "meet_of" Toy.s_meet_of:=by
   dsimp only[L2.KOf];exact L2.tx_mk KX G (by k_is) (by k_is) (by k_is) (by k_is)
  have T4:L2.Tx (L2.KOf KX) mg "without_names" Toy.s_without_names:=by
   dsimp only[L2.KOf];exact L2.tx_mk KX G (by k_is) (by k_is) (by k_is) (by k_is)
  have T5:L2.Tx (L2.KOf KX) mg "choices_of" Toy.s_choices_of:=by
   dsimp only[L2.KOf];exact L2.tx_mk KX G (by k_is) (by k_is) (by k_is) (by k_is)
  have T6:L2.Tx (L2.KOf KX) mg "core_of" Toy.s_core_of:=by
   dsimp only[L2.KOf];exact L2.tx_mk KX G (by k_is) (by k_is) (by k_is) (by k_is)
  have T7:L2.Tx (L2.KOf KX) mg "names_of_all" Toy.s_names_of_all:=by
   dsimp only[L2.KOf];exact L2.tx_mk KX G (by k_is) (by k_is) (by k_is) (by k_is)
  have T8:L2.Tx (L2.KOf KX) mg "names_of" Toy.s_names_of:=by
   dsimp only[L2.KOf];exact L2.tx_mk KX G (by k_is) (by k_is) (by k_is) (by k_is)
  have T9:L2.Tx (L2.KOf KX) mg "link_of" Toy.s_link_of:=by
   dsimp only[L2.KOf];exact L2.tx_mk KX G (by k_is) (by k_is) (by k_is) (by k_is)
  have T10:L2.Tx (L2.KOf KX) mg "greatest_flower" Toy.s_greatest_flower:=by
   dsimp only[L2.KOf];exact L2.tx_mk KX G (by k_is) (by k_is) (by k_is) (by k_is)
  have T11:L2.Tx (L2.KOf KX) mg "first_of_longest" Toy.s_first_of_longest:=by
   dsimp only[L2.KOf];exact L2.tx_mk KX G (by k_is) (by k_is) (by k_is) (by k_is)
  have T12:L2.Tx (L2.KOf KX) mg "count_flowers" Toy.s_count_flowers:=by
   dsimp only[L2.KOf];exact L2.tx_mk KX G (by k_is) (by k_is) (by k_is) (by k_is)
  have T13:L2.Tx (L2.KOf KX) mg "count_with_core" Toy.s_count_with_core:=by
   dsimp only[L2.KOf];exact L2.tx_mk KX G (by k_is) (by k_is) (by k_is) (by k_is)
  have T14:L2.Tx (L2.KOf KX) mg "count_apart" Toy.s_count_apart:=by
   dsimp only[L2.KOf];exact L2.tx_mk KX G (by k_is) (by k_is) (by k_is) (by k_is)
  have T15:L2.Tx (L2.KOf KX) mg "flowers_of" Toy.s_flowers_of:=by
   dsimp only[L2.KOf];exact L2.tx_mk KX G (by k_is) (by k_is) (by k_is) (by k_is)
  have T16:L2.Tx (L2.KOf KX) mg "cores_of_two" Toy.s_cores_of_two:=by
   dsimp only[L2.KOf];exact L2.tx_mk KX G (by k_is) (by k_is) (by k_is) (by k_is)
  have T17:L2.Tx (L2.KOf KX) mg "most_beside" Toy.s_most_beside:=by
   dsimp only[L2.KOf];exact L2.tx_mk KX G (by k_is) (by k_is) (by k_is) (by k_is)
  have T18:L2.Tx (L2.KOf KX) mg "most_free" Toy.s_most_free:=by
   dsimp only[L2.KOf];exact L2.tx_mk KX G (by k_is) (by k_is) (by k_is) (by k_is)
  have T19:L2.Tx (L2.KOf KX) mg "most_free_with" Toy.s_most_free_with:=by
   dsimp only[L2.KOf];exact L2.tx_mk KX G (by k_is) (by k_is) (by k_is) (by k_is)
  have T20:L2.Tx (L2.KOf KX) mg "most_without" Toy.s_most_without:=by
   dsimp only[L2.KOf];exact L2.tx_mk KX G (by k_is) (by k_is) (by k_is) (by k_is)
  have T21:L2.Tx (L2.KOf KX) mg "enough_sets" Toy.s_enough_sets:=by
   dsimp only[L2.KOf];exact L2.tx_mk KX G (by k_is) (by k_is) (by k_is) (by k_is)
  have T22:L2.Tx (L2.KOf KX) mg "_law_number" Toy.s_law_number:=by
   dsimp only[L2.KOf];exact L2.tx_mk KX G (by k_is) (by k_is) (by k_is) (by k_is)
  have T23:L2.Tx (L2.KOf KX) mg "_law_all_sets" Toy.s_law_all_sets:=by
   dsimp only[L2.KOf];exact L2.tx_mk KX G (by k_is) (by k_is) (by k_is) (by k_is)
  have T24:L2.Tx (L2.KOf KX) mg "_law_few" Toy.s_law_few:=by
   dsimp only[L2.KOf];exact L2.tx_mk KX G (by k_is) (by k_is) (by k_is) (by k_is)
  have T25:L2.Tx (L2.KOf KX) mg "_law_right" Toy.s_law_right:=by
   dsimp only[L2.KOf];exact L2.tx_mk KX G (by k_is) (by k_is) (by k_is) (by k_is)
  refine' Toy.fin KX G hmg B CD LT T1 T2 T3 T4 T5 T6 T7 T8 T9 T10 T11 T12 T13 T14 T15 T16 T17 T18 T19 T20 T21 T22 T23 T24 T25 ?a ?l ?c ?k
  (case a=>k_is);(case l=>k_is);(case c=>k_is);(case k=>k_is)
