import PyProof.Rows.All
import Wide.All
import OpenK.AllK
import Wide.FinOn
import Lean
import PyProof.EqAt
import PyProof.EqKinds
import PyProof.TupleCall
import PySem.SetOps
import KE.KSortTup
import PyProof.Rows.SortShellK
import KE.KDictSum
import PyProof.Rows.StrJoin2
import PyProof.Rows.SumAny
import KE.KxText
import PyProof.ZipIter
import PyProof.Rows.FactsT2
import PyProof.Rows.ZipGen
import PyProof.StrOps2
import PyProof.ListRange
import PyProof.ListStr
import PyProof.FString5
import PyProof.AutoSeq1
import PyProof.MinMaxWalk
import PyProof.WalksMore
import PyProof.Rows.CallKwBuiltin
import KE.KMinKey
import PyProof.Rows.BitMore
import KE.KLam
import PyProof.TupleIter
import Wide.Seal
import PyProof.DictItems
import KE.KPairComp
import PyProof.Rows.TupDisplay
import PyProof.TupleOfStr
import PySem.Challenge.RW_corepetals_k72_levels_planted
open And renaming intro->jB
open Array renaming filterMap->j9,forIn_toList->gz,getD->hU,getD_eq_getD_getElem?->cf,getElem?_eq_getElem->gg,getElem?_eq_some_iff->dH,getElem?_replicate->jq,getElem?_setIfInBounds_ne->gX,getElem?_setIfInBounds_self_of_lt->fM,getElem?_toList->aW,length_toList->bn,mem_of_getElem?->fJ,mem_toList_iff->eg,perm_iff_toList_perm->cY,replicate->gu,size_append->de,size_map->ko,size_push->dR,toList_append->bS,toList_push->cC,toList_reverse->fT,toList_setIfInBounds->iZ
open Array.Perm renaming refl->ka
open Bool renaming and_eq_true->aY,and_false->kj,eq_false_iff->fg,eq_iff_iff->c5,false_eq_true->aV,false_ne_true->bz,not_eq_true->ga,not_eq_true'->cN,not_false->kr,not_true->gn,true_and->fH
open Classical renaming byContradiction->aR
open False renaming elim->eC
open ForInStep renaming done->bD,yield->bM
open Int renaming emod_lt_of_pos->gx,emod_nonneg->iw,le_refl->ji,natCast_add->cS,natCast_mul->fF,toNat_natCast->b5
open LawfulBEq renaming eq_of_beq->hJ
open LawfulMonad renaming pure_bind->jA
open List renaming Nodup->gy,all_cons->ij,all_eq_true->b7,all_map->jY,any_cons->jv,any_eq_true->jE,append_assoc->bd,append_nil->cr,drop_append->f7,drop_append_of_le_length->iq,drop_drop->iX,drop_eq_getElem_cons->cQ,drop_eq_nil_of_le->bQ,drop_length->f8,drop_zero->gO,eq_nil_of_length_eq_zero->bZ,erase_sublist->i4,ext_getElem->jL,ext_getElem?->gN,filterMap_append->g6,filterMap_cons->cJ,filter_cons->eR,filter_sublist->fu,find?_cons->dg,flatMap_cons->gV,flatten_append->eF,flatten_cons->gU,flatten_singleton->eJ,foldl_cons->j8,forIn_cons->dP,forIn_nil->iP,getD_eq_getElem?_getD->ai,getElem?_append_left->db,getElem?_append_right->bY,getElem?_cons_succ->jC,getElem?_cons_zero->jK,getElem?_drop->iL,getElem?_eq_getElem->af,getElem?_eq_none->cx,getElem?_eq_some_iff->aB,getElem?_map->aL,getElem?_set_ne->fN,getElem?_take_of_lt->gj,getElem_drop->gQ,getElem_map->jM,getElem_mem->d0,getElem_of_mem->bh,getElem_take->gP,isEmpty_nil->jH,length->d9,length_append->ap,length_cons->aK,length_drop->bm,length_eq_zero_iff->gD,length_eraseIdx_of_lt->iU,length_erase_of_mem->gp,length_filter_le->bf,length_map->ah,length_nil->cu,length_pos_iff->dO,length_pos_iff_exists_mem->ic,length_range->bF,length_singleton->dW,length_take->aM,lookup_cons->da,mapM_toArray->jg,map_append->aZ,map_congr_left->eG,map_cons->aU,map_id->ku,map_map->bI,map_nil->fY,map_take->jw,mem_append->aS,mem_append_left->be,mem_append_right->a7,mem_cons->aD,mem_cons_of_mem->ao,mem_cons_self->ak,mem_filter->av,mem_filterMap->fA,mem_flatten->f9,mem_map->aQ,mem_of_getElem?->am,mem_of_mem_drop->en,mem_of_mem_take->du,mem_range->ax,mem_reverse->jJ,mem_singleton->aH,mergeSort_perm->iA,nil_append->bP,nodup_append->bV,nodup_cons->bE,nodup_nil->eT,nodup_range->dq,not_mem_nil->eP,of_mem_zip->j7,pairwise_append->bG,pairwise_cons->aX,pairwise_iff_getElem->bO,pairwise_map->bH,pairwise_mergeSort->gF,pairwise_reverse->g8,pairwise_singleton->bB,perm_append_comm->dY,perm_append_singleton->iM,perm_ext_iff_of_nodup->cM,perm_middle->eQ,range->aI,range_succ->dQ,replicate->fP,reverse_perm->jh,size_toArray->aq,sum_cons->cT,take_add_one->cE,take_append_drop->bJ,take_append_of_le_length->eA,take_length->cz,take_of_length_le->bN,take_sublist->jc,take_zero->iY,zip_cons_cons->d6,zip_nil_left->jf,zip_nil_right->iT
open List.Nodup renaming mem_erase_iff->fo
open List.Pairwise renaming filter->cP,imp->kI,imp_of_mem->aJ,nil->gT,sublist->ki
open List.Perm renaming append_left->dX,append_right->eI,cons_inv->i5,refl->dI,swap->iQ
open List.Sublist renaming cons₂->kG
open MonadExcept renaming tryCatch->kx
open Ne renaming symm->cA
open Option renaming getD_none->jz,isSome_iff_exists->cj,map_eq_some_iff->bR
open Option.some renaming inj->aO
open Or renaming inl->a9,inr->iz
open PyProof.Rows renaming AllBare->ja,IntsAre->iC,IsTup->i8,Keyed->aP,SortKind->fw,SortSt->cW,StrsAre->jZ,arrOf->aT,callWith_type1->dD,elem'->eU,envOfC->jp,failedOf->fS,get?_update_seq->fc,lt_str->ky,mirror->dU,pairsOf->ik,pairsOf_toList->i3,pendingOf->bX,reverseSlice'_eq->dA,seqObj->b4,setArr->cU,setPending->fU,slot_tuple_getitem->cG,sortedHeap->h9,wpS_bind->az,wpS_forRange->b9,wpS_get->iF,wpS_lift->iW,wpS_modify->cX,wpS_mono->dw,wpS_pure->aG
open PyProof.Rows.F renaming entry_set_update_loop->gh,plain_set_update_loop->eE
open PyProof.Rows.SortSt renaming mk'->iV
open PySem renaming Around->bj,Builtin->cv,Comprehension->fk,Fin->iJ,FuncData->d8,Heap->bu,IsItemIter->gB,IsTupleKey->jU,Keyword->fZ,NameKind->fD,Paired->bi,Program->au,SetTable->a8,Shared->aj,Value->ae,World->aN,argBest->gb,assign->jn,assignEach->dj,attributeBase->eM,backTo->cO,backToKw->io,behindInMarks->eL,binaryOp->eD,bootBuiltins->cI,cLine->cB,carriedByValue->iN,cellsFrom->e9,codeAny->fB,codeAny_builtin->cZ,codeAny_mono->iB,codeAny_of_tree->iu,compEnvC->gM,compTurn->eS,compareOp->cy,concat_meets->jS,firstArgMember->iR,foldedSetIterable->cq,getItem->jT,holding->fW,keywordEach->fy,letOwnedTupleGo->e8,mainGlobals->bC,mem_of_lookup->ft,model->aF,noFill_tuple_add->jy,ofAClassStatement->fK,pickOrder->iI,plainId_quiet->eO,pushCells->f6,putSet_of->hX,pyIter->jo,pyNext->eV,rawInt->fI,relayAll->jD,seqItems?->jF,setAddHashed->jV,setField->ip,setsByText->jX,sizeLine_eq->bK,sliceBounds->fx,standAt->fX,starEach->aC,strKind->eN,swapsWith->g9,sysModules->fj,unsupported->fz,wpAny->aE,wpAny_Call_Name_kw->gw,wpAny_askSetting->dl,wpAny_attempt->ii,wpAny_bind->aa,wpAny_callSpecial?_slot->cL,wpAny_call_entry->b6,wpAny_dictEntries->jl,wpAny_eqBool_tuple->iO,wpAny_execs_nil->ir,wpAny_field->ef,wpAny_fieldsOf->gS,wpAny_forIn_list->hW,wpAny_holding->bq,wpAny_isInstance->hZ,wpAny_isOneOf_itemiter->fC,wpAny_ite_split->iy,wpAny_letGo->jj,wpAny_loadPart'->fb,wpAny_mono->eB,wpAny_newList->ju,wpAny_newObj_type->bA,wpAny_of_eq->jd,wpAny_passesOwn->eZ,wpAny_pure->ad,wpAny_pyIter_list->fL,wpAny_pyIter_tuple->gA,wpAny_pyNext_list_end->gZ,wpAny_pyNext_list_item->gG,wpAny_rule->dG,wpAny_seqItems->dJ,wpAny_setField_rec->bW,wpAny_setState_of->dM,wpAny_specialOf->ix,wpAny_standAt->eK,wpAny_storeSet_of->gR,wpAny_truthy_bool->dF,wpAny_tryCatch->fV,wpAny_typeNameOfWhole_itemiter->d7,wpAny_typeNameOf_itemiter->eY,wpAny_typeOf->gJ,wpAny_updateSeq->fE
open PySem.Around renaming under_plainId->cD
open PySem.AutoSeq1 renaming sub_tuple_tuple->jr
open PySem.Builtin.Builtins renaming bindParams->iG
open PySem.Builtin.Dict renaming showsAll->kh
open PySem.Builtin.Dict_items renaming ownedTupleFields->gq,ownsTuple->fG,pairFromOwner->gW
open PySem.Builtin.Frozenset renaming addrOf->js
open PySem.Builtin.Int renaming intBits->kz
open PySem.Builtin.List renaming listExtendWith->iE,listLengthHint->iD,listSameRef->jt,listTooLong->gl
open PySem.Builtin.Slice renaming sliceAdjust->gc,sliceApplied->fQ,slicePlaces->eW
open PySem.Builtin.SmallTypes renaming nextOf->i6
open PySem.Builtin.Str renaming strSliceIndices->cg
open PySem.Builtin.Tuple renaming tupleCompareSizes->gY,tupleExact->cF,tupleItemsOf->fR
open PySem.Calls renaming Name_function_global->iK,callWith_builtin->gK,call_function_entry->gf,spliced_cons->gv,spliced_nil->jb
open PySem.Code renaming compLoop->ig,compStart->gL
open PySem.Expr renaming SetComp->j6
open PySem.F renaming args_tuple_add_2->gk,args_tuple_lt_2->jG,entry_extend_loop->i7,entry_tuple_add->gC,entry_tuple_lt->jW,plainAttrs_dict->jN,plainAttrs_list->gE,plain_extend_loop->eX,plain_list_iadd->jI,plain_set_new->kc,slot_dict_get->kg,slot_dict_items->jO,slot_set_iter->ke,slot_tuple_add->gI,slot_tuple_lt->g7
open PySem.Heap renaming SameBut->c9,get?_push_of_some->ag,get?_push_size->ar,get?_update_other->bL,get?_update_self->cH,lt_size->aA,size_push->cV
open PySem.Heap.SameBut renaming extBut->gi,refl->je,update->cb
open PySem.NameKind renaming cell->ie,free->bg
open PySem.Obj renaming mapSeq->bU,putSet->dZ
open PySem.Paired renaming length->ca
open PySem.PassesOwn renaming never->cK
open PySem.SeqAt renaming EqAt->dh,RcNeAt->cR
open PySem.SeqAt.EqAt renaming of_refs->kF,same->kb,str_str->iS
open PySem.SetTable renaming fill->kB,fits->kA,fresh->km,grown->dN
open PySem.Shared renaming TypeIs->kC
open PySem.Str renaming ofString->bo
open PySem.Value renaming bool->kD,int->iH,isStrOf->fh,isStrOf_shape->fq,none->ce,ref->c8,str->jx,type->dE
open PySem.W renaming Frag->ay,cellsFrom_some->jR,codeIn->gH,fnOf->ff,keepIn->fO,methodObj->i9,nsIn->b8
open PySem.pickOrder renaming go->kH
open Sum renaming inl->jP,inr->jQ
set_option Elab.async false
set_option linter.all false
set_option maxRecDepth 100000
namespace L2
open PySem PySem.Spec PyProof.Rows
abbrev Key:=Sum Int Str
def dQm:Key->ae->Bool
 |.inl k,v=>ae.isInt k v
 |.inr x,v=>fh x v
def keyH(w:aN):Key->Int
 |.inl k=>hashInt k
 |.inr x=>hashStr w x
theorem aQj:∀{k:Key}{v:ae},dQm k v=true->(∃i t,k=jP i/\v=iH i t)\/(∃x t,k=jQ x/\v=jx x t)
 |.inl i,v,h=>by
  obtain⟨t,e⟩:=ae.isInt_shape (k:=i) (v:=v) h;exact .inl ⟨i,t,rfl,e⟩
 |.inr x,v,h=>by
  obtain⟨t,e⟩:=fq (x:=x) (v:=v) h;exact .inr ⟨x,t,rfl,e⟩
theorem eXs(a b:Int):decide ((jP a:Key)=jP b)=(a==b):=by
 by_cases e:a=b
 ·subst e;simp
 ·have h:¬ (jP a:Key)=jP b:=λq=>e (jP.inj q);rw[decide_eq_false h];exact(beq_eq_false_iff_ne.mpr e).symm
theorem eXt(a b:Str):decide ((jQ a:Key)=jQ b)=decide (a=b):=by
 by_cases e:a=b
 ·subst e;simp
 ·have h:¬ (jQ a:Key)=jQ b:=λq=>e (jQ.inj q);rw[decide_eq_false h,decide_eq_false e]
theorem eXu(a:Int)(b:Str):decide ((jP a:Key)=jQ b)=false:=decide_eq_false (λq=>nomatch q)
theorem eXv(a:Str)(b:Int):decide ((jQ a:Key)=jP b)=false:=decide_eq_false (λq=>nomatch q)
def aJr(prog:au)(w:aN):PySem.KeyKind prog w Key where
 is:=dQm
 hash:=keyH w
 inj:=λv a b ha hb=>by
  rcases aQj ha with⟨i,t,rfl,rfl⟩|⟨x,t,rfl,rfl⟩
  ·rcases aQj hb with⟨j,u,rfl,e⟩|⟨y,u,rfl,e⟩
   ·injection e with e1 _;rw[e1]
   ·exact nomatch e
  ·rcases aQj hb with⟨j,u,rfl,e⟩|⟨y,u,rfl,e⟩
   ·exact nomatch e
   ·injection e with e1 _;rw[e1]
 byValue:=λk v h=>by
  rcases aQj h with⟨i,t,rfl,rfl⟩|⟨x,t,rfl,rfl⟩ <;> rfl
 pyHash:=λhv h=>by
  rcases aQj hv with⟨i,t,rfl,rfl⟩|⟨x,t,rfl,rfl⟩
  ·exact wpAny_pyHash_int h
  ·exact wpAny_pyHash_str h
 eqBool:=λhu hv h=>by
  rcases aQj hu with⟨i,t,rfl,rfl⟩|⟨x,t,rfl,rfl⟩
  ·rcases aQj hv with⟨j,u,rfl,rfl⟩|⟨y,u,rfl,rfl⟩
   ·rw[eXs] at h;exact wpAny_eqBool_int h
   ·rw[eXu] at h;exact dh.int_str i t y u _ _ _ _ h
  ·rcases aQj hv with⟨j,u,rfl,rfl⟩|⟨y,u,rfl,rfl⟩
   ·rw[eXv] at h;exact dh.str_int x t j u _ _ _ _ h
   ·rw[eXt] at h;exact wpAny_eqBool_str h
 «strs»:=λk x t v h=>by
  rcases aQj h with⟨i,u,rfl,e⟩|⟨y,u,rfl,e⟩
  ·exact nomatch e
  ·injection e with e1 _
   subst e1;cases v <;> rfl
inductive V where
 |non|bl (b:Bool)|int (i:Int)|str (x:Str)|byt (b:Array UInt8)|flt (b:UInt64)|ref (a:Addr)|ty (n:String)
 deriving DecidableEq
def RelV:V->ae->Prop
 |.non,u=>u=ce
 |.bl b,u=>u=kD b
 |.int i,u=>∃t,u=iH i t
 |.str x,u=>∃t,u=jx x t
 |.byt b,u=>∃t,u=ae.bytes b t
 |.flt b,u=>∃t,u=ae.float b t
 |.ref a,u=>u=c8 a
 |.ty n,u=>u=dE n
abbrev Vals:List V->List ae->Prop:=bi RelV
theorem Vals.length{xs:List V}{us:List ae}(r:Vals xs us):xs.length=us.length:=ca r
theorem Vals.get:∀{xs:List V}{us:List ae}{i:Nat}{x:V},Vals xs us->xs[i]?=some x->∃u,us[i]?=some u/\RelV x u
 |_,_,_,_,.nil,e=>by simp at e
 |_,_,0,_,.cons r _,e=>by simp at e;subst e;exact⟨_,rfl,r⟩
 |_,_,i+1,x,.cons _ t,e=>by
  obtain⟨u,h1,h2⟩:=Vals.get (i:=i) (x:=x) t (by simpa using e)
  exact⟨u,by simpa using h1,h2⟩
theorem Vals.set{x:V}{u:ae}(r:RelV x u):∀{xs:List V}{us:List ae}(i:Nat),Vals xs us->Vals (xs.set i x) (us.set i u)
 |_,_,_,.nil=>.nil
 |_,_,0,.cons _ t=>.cons r t
 |_,_,i+1,.cons q t=>.cons q (Vals.set r i t)
theorem Vals.append:∀{xs ys:List V}{us ws:List ae},Vals xs us->Vals ys ws->Vals (xs++ys) (us++ws)
 |_,_,_,_,.nil,s=>s
 |_,_,_,_,.cons r t,s=>.cons r (Vals.append t s)
theorem Vals.take:∀{xs:List V}{us:List ae}(n:Nat),Vals xs us->Vals (xs.take n) (us.take n)
 |_,_,0,_=>.nil
 |_,_,_+1,.nil=>.nil
 |_,_,n+1,.cons r t=>.cons r (Vals.take n t)
theorem Vals.drop:∀{xs:List V}{us:List ae}(n:Nat),Vals xs us->Vals (xs.drop n) (us.drop n)
 |_,_,0,r=>r
 |_,_,_+1,.nil=>.nil
 |_,_,n+1,.cons _ t=>Vals.drop n t
def RelO:Option V->Option ae->Prop
 |some v,some u=>RelV v u
 |none,none=>True
 |_,_=>False
def KV{κ:Type}:List (κ×V)->List (κ×ae)->Prop:=bi λ(p:κ×V) (q:κ×ae)=>p.1=q.1/\RelV p.2 q.2
def kV:Key->V
 |.inl i=>.int i
 |.inr x=>.str x
inductive HO where
 |lst (xs:List V)
 |tup (xs:List V)
 |dK (kvs:List (Key×V))|dT (kvs:List (List Key×V))
 |set (S:Int->Bool) (n:Nat)
 |ins (C dx:Addr) (fs:List (Str×V))
 |own (x:Addr)
 |xd (fs:List (Str×V))
 |met (f x:Addr)
 |rng (lo hi:Int)
 |frz (o:Obj) (u:HO)
 |tbl (ps:Array ae)
 |ext (φ:bu->Prop)
abbrev Hp:=Addr->Option HO
def upd(H:Hp)(a:Addr)(o:HO):Hp:=λb=>if b=a then some o else H b
theorem aQ8{H:Hp}{a:Addr}{o:HO}:upd H a o a=some o:=by unfold upd;rw[if_pos rfl]
theorem upd_ne{H:Hp}{a b:Addr}{o:HO}(h:b≠a):upd H a o b=H b:=by unfold upd;rw[if_neg h]
theorem aQ7{H:Hp}{a b:Addr}{o:HO}(h:H a=some o)(h':H b=none):a≠b:=by
 intro e;subst e;rw[h] at h';cases h'
section
variable(P:au)(w:aN)
def ObjOk(H:Hp)(h:bu)(a:Addr):HO->Prop
 |.lst xs=>xs.length<=sizeLine/\∃(its:List ae) (n:Nat),Vals xs its/\h.get? a=some {cls:=.type "list",data:=.seq its.toArray n}
 |.tup xs=>xs.length<=sizeLine/\∃its:List ae,Vals xs its/\i8 h a its.toArray/\∀o,h.get? a=some o->o.dict=none
 |.dK kvs=>kvs.length<=sizeLine/\(a==fj)=false/\∃vs,KV kvs vs/\h.DictOf (aJr P w) a vs
 |.dT kvs=>kvs.length<=sizeLine/\(a==fj)=false/\∃xs:List (List Key×Addr×ae),
   bi (λ(p:List Key×V) (q:List Key×Addr×ae)=>p.1=q.1/\H q.2.1=some (.tup (p.1.map kV))/\RelV p.2 q.2.2) kvs xs /\
   ∃o es ep,h.get? a=some o/\o.ExactDict/\o.data=.dict es ep/\es.toList=xs.map (entryOfKey (tupleKind (aJr P w)))/\(xs.map (·.1)).Nodup
 |.set S n=>h.SetOf (intKind P w) a S n
 |.ins C dx fs=>H dx=some (.own a)/\fs.length<=1000/\dx≠a/\h.get? a=some (PySem.W.instObj C dx) /\
   ∃mA,h.Ns1 dx mA/\(∀f,RelO (fs.lookup f) (mA f))/\PySem.Within mA (fs.map (·.1))
 |.own _=>∃o,h.get? a=some o
 |.xd fs=>∃mA,h.Ns1 a mA/\∀f,RelO (fs.lookup f) (mA f)
 |.rng lo hi=>∃t u v,h.get? a=some {cls:=.type "range",data:=.fields #[.int lo t,.int hi u,.int 1 v]}
 |.frz o u=>h.get? a=some o/\ObjOk H h a u
 |.tbl ps=>h.get? a=some {cls:=.none,data:=.fields ps}
 |.met f x=>h.get? a=some (i9 (.ref f) (.ref x))
 |.ext φ=>φ h/\(∃o,h.get? a=some o)/\∀h1 h2:bu,φ h1->(∀o,h1.get? a=some o->h2.get? a=some o)->φ h2
def HOk(H:Hp)(h:bu):Prop:=∀a o,H a=some o->ObjOk P w H h a o
end
section
variable{P:au}{w:aN}{H H':Hp}{h h':bu}{a:Addr}{o:HO}
theorem ObjOk.lt(x:ObjOk P w H h a o):a<h.objs.size:=by
 cases o with
 |lst xs=>obtain⟨_,_,_,_,e⟩:=x;exact aA e
 |tup xs=>obtain⟨_,_,_,p⟩:=x;exact p.1.lt
 |dK j=>obtain⟨_,_,_,_,o,_,_,e,_⟩:=x;exact aA e
 |dT j=>obtain⟨_,_,_,_,o,_,_,e,_⟩:=x;exact aA e
 |set S n=>obtain⟨o,_,_,_,e,_⟩:=x;exact aA e
 |ins C z fs=>obtain⟨_,_,_,e,_⟩:=x;exact aA e
 |own y=>obtain⟨_,e⟩:=x;exact aA e
 |xd fs=>obtain⟨_,⟨_,_,_,e,_⟩,_⟩:=x;exact aA e
 |rng lo hi=>obtain⟨_,_,_,e⟩:=x;exact aA e
 |frz q u=>obtain⟨e,_⟩:=x;exact aA e
 |tbl ps=>exact aA (show h.get? a=some _ from x)
 |met f y=>exact aA (show h.get? a=some _ from x)
 |ext φ=>obtain⟨_,⟨_,e⟩,_⟩:=x;exact aA e
theorem Paired.mapP{α β:Type}{F G:α->β->Prop}:∀{l₁:List α}{l₂:List β},bi F l₁ l₂->(∀a b,F a b->G a b)->bi G l₁ l₂
 |_,_,.nil,_=>.nil
 |_,_,.cons r t,f=>.cons (f _ _ r) (Paired.mapP t f)
theorem ObjOk.stay(x:ObjOk P w H h a o)(k:∀b u,(b=a\/H b=some (.own a))->h.get? b=some u->h'.get? b=some u)
  (ho:∀b,H b=some (.own a)->H' b=some (.own a)) (ht:∀b xs,H b=some (.tup xs)->H' b=some (.tup xs)):ObjOk P w H' h' a o:=by
 induction o with
 |lst xs=>obtain⟨z,B,n,r,e⟩:=x;exact⟨z,B,n,r,k _ _ (.inl rfl) e⟩
 |tup xs =>
  obtain⟨z,B,r,⟨j,e,c⟩,nd⟩:=x;exact⟨z,B,r,⟨j,k _ _ (.inl rfl) e,c⟩,λo q=>by rw[k _ _ (.inl rfl) e] at q;cases q;exact nd _ e⟩
 |dK J=>obtain⟨z,y,vs,r,j,es,ep,e,c⟩:=x;exact⟨z,y,vs,r,j,es,ep,k _ _ (.inl rfl) e,c⟩
 |dT J =>
  obtain⟨z,y,xs,r,j,es,ep,e,c⟩:=x;exact⟨z,y,xs,Paired.mapP r λp q z=>⟨z.1,ht _ _ z.2.1,z.2.2⟩,j,es,ep,k _ _ (.inl rfl) e,c⟩
 |set S n=>obtain⟨j,es,ep,t,e,c⟩:=x;exact⟨j,es,ep,t,k _ _ (.inl rfl) e,c⟩
 |ins C U fs =>
  obtain⟨d,z,ne,e,G,⟨D,es,ep,O,c⟩,r⟩:=x;exact⟨ho _ d,z,ne,k _ _ (.inl rfl) e,G,⟨D,es,ep,k _ _ (.inr d) O,c⟩,r⟩
 |own y=>obtain⟨j,e⟩:=x;exact⟨j,k _ _ (.inl rfl) e⟩
 |xd fs=>obtain⟨G,⟨D,es,ep,e,c⟩,r⟩:=x;exact⟨G,⟨D,es,ep,k _ _ (.inl rfl) e,c⟩,r⟩
 |rng lo hi=>obtain⟨t,u,v,e⟩:=x;exact⟨t,u,v,k _ _ (.inl rfl) e⟩
 |frz j u L=>obtain⟨e,q⟩:=x;exact⟨k _ _ (.inl rfl) e,L q⟩
 |tbl ps =>
  have e:h.get? a=some {cls:=.none,data:=.fields ps}:=x;show h'.get? a=some {cls:=.none,data:=.fields ps};exact k a _ (.inl rfl) e
 |met f y =>
  have e:h.get? a=some (i9 (.ref f) (.ref y)):=x;show h'.get? a=some (i9 (.ref f) (.ref y));exact k a _ (.inl rfl) e
 |ext φ=>obtain⟨p,⟨o,e⟩,st⟩:=x;exact⟨st _ _ p λo q=>k _ _ (.inl rfl) q,⟨o,k _ _ (.inl rfl) e⟩,st⟩
theorem cQ5{g:bu}{arr:Array ae}{n:Nat}:∀o,(g.push {cls:=.type "tuple",data:=.seq arr n}).get? g.objs.size=some o->o.dict=none:=λo e=>by
 rw[ar _ rfl] at e;cases e;rfl
theorem HOk.lt(x:HOk P w H h)(e:H a=some o):a<h.objs.size:=(x a o e).lt
theorem HOk.fresh(x:HOk P w H h)(e:h.objs.size<=a):H a=none:=by
 cases q:H a with
 |none=>rfl
 |some u=>exact absurd (Nat.lt_of_lt_of_le (x.lt q) e) (Nat.lt_irrefl _)
theorem HOk.kept(x:HOk P w H h)(k:∀b u,h.get? b=some u->h'.get? b=some u):HOk P w H h':=λa o e =>
 (x a o e).stay (λb u _ q=>k b u q) (λ_ q=>q) λ_ _ q=>q
theorem HOk.laid(x:HOk P w H h)(k:∀b u,h.get? b=some u->h'.get? b=some u)(hp:h.objs.size<=a)(new:ObjOk P w (upd H a o) h' a o):HOk P w (upd H a o) h':=λb u e=>by
 have j:=x.fresh hp
 by_cases z:b=a
 ·subst z;rw[aQ8] at e;cases e;exact new
 ·rw[upd_ne z] at e;exact(x b u e).stay (λc v _ q=>k c v q) (λc q=>by rw[upd_ne (aQ7 q j)];exact q) λc xs q=>by rw[upd_ne (aQ7 q j)];exact q
end
def Rd(H:Hp)(a:Addr)(u:HO):Prop:=H a=some u\/∃o,H a=some (.frz o u)
theorem Rd.ok{P:au}{w:aN}{H:Hp}{h:bu}{a:Addr}{u:HO}(r:Rd H a u)(x:HOk P w H h):ObjOk P w H h a u:=by
 rcases r with r|⟨o,r⟩
 ·exact x a u r
 ·obtain⟨_,q⟩:=x a _ r;exact q
def Mut:Option HO->Prop
 |some (.lst _)=>True
 |some (.dK _)=>True
 |some (.dT _)=>True
 |some (.set _ _)=>True
 |some (.ins _ _ _)=>True
 |some (.ext _)=>True
 |_=>False
section
variable{P:au}{w:aN}{H:Hp}{h h':bu}{x e:Addr}{o':HO}
theorem HOk.write(ok:HOk P w H h)(mu:Mut (H x))(he:e=x\/H e=some (.own x))(k:∀b u,b≠e->h.get? b=some u->h'.get? b=some u)(heo:∃u,h'.get? e=some u)
  (new:ObjOk P w (upd H x o') h' x o'):HOk P w (upd H x o') h':=λb u q=>by
 have B:∀c y,H c=some (.own y)->c≠x:=λc y r z=>by subst z;rw[r] at mu;exact mu
 have ntup:∀c xs,H c=some (.tup xs)->c≠x:=λc xs r z=>by subst z;rw[r] at mu;exact mu
 by_cases G:b=x
 ·subst G;rw[aQ8] at q;cases q;exact new
 ·rw[upd_ne G] at q
  by_cases j:b=e
  ·have q':H b=some (.own x):=by
    rcases he with z|z
    ·exact absurd (j.trans z) G
    ·rw[j];exact z
   rw[q] at q';cases q';obtain⟨v,J⟩:=heo;exact⟨v,by rw[j];exact J⟩
  ·refine(ok b u q).stay (λc v D r=>k c v ?_ r) (λc r=>by rw[upd_ne (B c b r)];exact r) λc xs r=>by rw[upd_ne (ntup c xs r)];exact r
   rcases D with rfl|D
   ·exact j
   ·rintro rfl;rcases he with z|z
    ·exact B c b D z
    ·rw[D] at z;cases z;exact G rfl
end
structure Un(fs ex:List Addr)(H H':Hp)(h h':bu):Prop where
 keep:∀b o,h.get? b=some o->H b=none->b∉fs->b∉ex->h'.get? b=some o
 slot:∀b o,h.get? b=some o->H b=none->b∈fs->b∉ex->∃sl,h'.get? b=some {o with slots:=sl}
 free:∀b o,h.get? b=some o->H b=none->b∉ex->H' b=none
 there:∀b o,h.get? b=some o->b∉ex->∃o',h'.get? b=some o'
 tups:∀b xs,H b=some (.tup xs)->H' b=some (.tup xs)
 frzs:∀b o u,H b=some (.frz o u)->H' b=some (.frz o u)
 tbls:∀b ps,H b=some (.tbl ps)->∃more,H' b=some (.tbl (ps++more))
section
variable{fs fs' ex ex':List Addr}{H H1 H2:Hp}{h h1 h2 h':bu}{a x e:Addr}{o:HO}
theorem Un.any(u:Un fs ex H H1 h h1){b:Addr}{ob:Obj}(q:h.get? b=some ob)(n:H b=none)(hx:b∉ex):∃sl,h1.get? b=some {ob with slots:=sl}:=by
 by_cases j:b∈fs
 ·exact u.slot b ob q n j hx
 ·exact⟨ob.slots,u.keep b ob q n j hx⟩
theorem Un.kept(k:∀b u,h.get? b=some u->h'.get? b=some u):Un fs ex H H h h' :=
 ⟨λb j q _ _ _=>k b j q,λb j q _ _ _=>⟨j.slots,k b j q⟩,λ_ _ _ n _=>n,λb j q _=>⟨j,k b j q⟩,λ_ _ q=>q,λ_ _ _ q=>q,λ_ ps q=>⟨#[],by rw[q];simp⟩⟩
theorem Un.refl:Un fs ex H H h h:=Un.kept λ_ _ q=>q
theorem Un.laid(k:∀b u,h.get? b=some u->h'.get? b=some u)(hp:h.objs.size<=a)(hn:H a=none):Un fs ex H (upd H a o) h h' where
 keep:=λb u q _ _ _=>k b u q
 slot:=λb u q _ _ _=>⟨u.slots,k b u q⟩
 free:=λb u q n _=>by rw[upd_ne (Nat.ne_of_lt (Nat.lt_of_lt_of_le (aA q) hp))];exact n
 there:=λb u q _=>⟨u,k b u q⟩
 tups:=λb xs q=>by rw[upd_ne (aQ7 q hn)];exact q
 frzs:=λb u xs q=>by rw[upd_ne (aQ7 q hn)];exact q
 tbls:=λb ps q=>⟨#[],by rw[upd_ne (aQ7 q hn),q];simp⟩
theorem Un.write(mu:Mut (H x))(he:e=x\/H e=some (.own x))(k:∀b u,b≠e->h.get? b=some u->h'.get? b=some u)(heo:∃u,h'.get? e=some u):Un fs ex H (upd H x o) h h':=by
 have B:∀b,H b=none->b≠x:=λb n z=>by subst z;rw[n] at mu;exact mu
 have D:∀b,H b=none->b≠e:=λb n z=>by
  subst z;rcases he with r|r
  ·exact B b n r
  ·rw[n] at r;cases r
 have hm:∀b u,H b=some u->¬ Mut (some u)->b≠x:=λb u q nm z=>by subst z;rw[q] at mu;exact nm mu
 refine⟨λb u q n _ _=>k b u (D b n) q,λb u q n _ _=>⟨u.slots,k b u (D b n) q⟩,λb u q n _=>by rw[upd_ne (B b n)];exact n,λb u q _=>?_,
  λb xs q=>by rw[upd_ne (hm b _ q λz=>z)];exact q,λb u xs q=>by rw[upd_ne (hm b _ q λz=>z)];exact q,λb ps q=>⟨#[],by rw[upd_ne (hm b _ q λz=>z),q];simp⟩⟩
 by_cases j:b=e
 ·subst j;exact heo
 ·exact⟨u,k b u j q⟩
end
def trk(h:bu)(H:Hp):List Addr:=(aI h.objs.size).filter λa=>(H a).isSome
def hidT(h:bu)(H:Hp):bu:=PySem.W.hideAll h (trk h H)
theorem cX7(h:bu)(H:Hp):(hidT h H).objs.size=h.objs.size:=PySem.W.hideAll_size _ _
theorem dQn{h:bu}{H:Hp}{b:Addr}{o:Obj}(e:h.get? b=some o)(n:H b=none):(hidT h H).get? b=some o :=
 PySem.W.hideAll_get _ e λhm=>by
  have q:(H b).isSome=true:=(av.mp hm).2;rw[n] at q;simp at q
theorem dJs{h:bu}{H:Hp}{b:Addr}{o:Obj}(e:(hidT h H).get? b=some o):h.get? b=some o/\H b=none:=by
 have j:h.get? b=some o:=PySem.W.of_hideAll (trk h H) e;refine⟨j,?_⟩;cases q:H b with
 |none=>rfl
 |some x =>
  have hm:b∈trk h H:=av.mpr ⟨ax.mpr (aA j),by simp[q]⟩
  have z:(hidT h H).get? b=none:=PySem.W.hideAll_none (trk h H) hm;rw[z] at e;cases e
structure Mod(K:ay)(mg:Str->Option ae)(base:bu):Prop where
 kin:K.In base
 glob:base.Ns bC mg
 blt:∃mb,base.Ns builtinsNs mb/\∀x:Str,x ≠ "__name__"->mb x=cI x
 nolimit:base.NoLimit
structure Cx where
 prog:au
 w:aN
 K:ay
 mg:Str->Option ae
 base:bu
 A:bj
 N:List Str
 s₀:aj
 H₀:Hp
 env:Env
 outer:List Env
 stack:List Env
 ex:List Addr
 fn:Str->Bool
 calm:Bool
 pn:List (Addr×Obj)
 xe:ae->aj->Prop
def frs(l:List Env):List Addr:=l.filterMap (·.frame)
abbrev Cx.fs(X:Cx):List Addr:=frs X.outer
def Vis(sc:Scope)(x:Str):Prop:=sc.names.lookup x=some .local\/sc.names.lookup x=some .cell\/sc.names.lookup x=some .free
def Loc(sc:Scope)(x:Str):Prop:=sc.names.lookup x=some .local\/sc.names.lookup x=some .cell
def Look(env:Env)(h:bu)(m:Str->Option ae)(x:Str)(u:ae):Prop :=
 (env.kindOf x=some .local/\m x=some u)\/((env.kindOf x=some .cell\/env.kindOf x=some .free)/\∃c,env.cells.lookup x=some c/\h.IsCell c (some u))
structure Cx.Ok(X:Cx):Prop where
 mod:Mod X.K X.mg X.base
 kind:X.env.scope.kind=.function
 glob:X.env.globals=bC
 blt:X.env.builtins=builtinsNs
 above:X.s₀.heap.objs.size<=X.env.locals
 inj:∀x y c,X.env.cells.lookup x=some c->X.env.cells.lookup y=some c->x=y
 has:∀x,(X.env.kindOf x=some .cell\/X.env.kindOf x=some .free)->∃c,X.env.cells.lookup x=some c
 cab:∀x c,X.fn x=true->X.env.cells.lookup x=some c->X.s₀.heap.objs.size<=c
 hd:X.calm=true->X.A.handled=none
 frames:X.A.frames=some X.stack
 gd:X.A.guards=some []
 stk:X.stack=X.outer\/(X.stack=X.env::X.outer/\X.env.frame=some X.env.locals)
 exf:∀b∈X.ex,b≠X.env.locals/\∀x c,X.env.cells.lookup x=some c->c≠b
 bs:∀b o,X.base.get? b=some o->X.s₀.heap.get? b=some o/\X.H₀ b=none
 bsz:X.base.objs.size<=X.s₀.heap.objs.size
 noex:∀b o,X.base.get? b=some o->b∉X.ex
 exfs:∀b∈X.ex,b∉X.fs
 funs:X.s₀.heap.FunFrames X.base X.outer
 frf:∀b∈X.fs,X.H₀ b=none
structure Inv(X:Cx)(pins:List (Addr×Obj))(σ:List (Option V))(H:Hp)(s:aj):Prop where
 ok:X.Ok
 os:s.os=X.s₀.os
 bare:ja s.gens
 base:Un X.fs X.ex X.H₀ H X.s₀.heap s.heap
 loc:∃m,s.heap.Ns X.env.locals m/\∀(i:Nat) (x:Str) (v:V),X.N[i]?=some x->σ[i]?=some (some v)->Vis X.env.scope x->∃u,RelV v u/\Look X.env s.heap m x u
 cell:∀x c,X.env.cells.lookup x=some c->∃v,s.heap.IsCell c v
 free:H X.env.locals=none
 freeC:∀x c,X.env.cells.lookup x=some c->H c=none
 pin:∀p∈X.pn++pins,s.heap.get? p.1=some p.2/\H p.1=none/\p.1≠X.env.locals/\p.1∉X.fs/\∀v,p.2.data≠.cell v
 hok:HOk X.prog X.w H s.heap
 len:σ.length=X.N.length
section
variable{X:Cx}{pins:List (Addr×Obj)}{σ:List (Option V)}{H H':Hp}{s:aj}{h':bu}
theorem Cx.Ok.nofr(ok:X.Ok){b:Addr}{o:Obj}(e:X.base.get? b=some o):b∉X.fs:=λj=>by
 have:=(ok.funs.mem j).1
 rw[e] at this;cases this
theorem Inv.bs(I:Inv X pins σ H s):∀b o,X.base.get? b=some o->s.heap.get? b=some o/\H b=none:=λb o e =>
 ⟨I.base.keep b o (I.ok.bs b o e).1 (I.ok.bs b o e).2 (I.ok.nofr e) (I.ok.noex b o e),I.base.free b o (I.ok.bs b o e).1 (I.ok.bs b o e).2 (I.ok.noex b o e)⟩
theorem Inv.bk(I:Inv X pins σ H s):∀b o,X.base.get? b=some o->s.heap.get? b=some o:=λb o e=>(I.bs b o e).1
theorem Inv.mod(I:Inv X pins σ H s):Mod X.K X.mg X.base:=I.ok.mod
theorem Inv.kIn(I:Inv X pins σ H s):X.K.In s.heap:=I.ok.mod.kin.keeps I.bk
theorem Inv.lt(I:Inv X pins σ H s):X.env.locals<s.heap.objs.size:=let ⟨_,j,_⟩:=I.loc;j.lt
theorem Inv.sz(I:Inv X pins σ H s):X.s₀.heap.objs.size<=s.heap.objs.size:=Nat.le_trans I.ok.above (Nat.le_of_lt I.lt)
theorem Inv.nofs(I:Inv X pins σ H s){a:Addr}(h:s.heap.objs.size<=a):a∉X.fs:=λq=>by
 obtain⟨_,o,j,_⟩:=I.ok.funs.mem q;exact absurd (Nat.lt_of_lt_of_le (aA j) (Nat.le_trans I.sz h)) (Nat.lt_irrefl _)
theorem Inv.cne(I:Inv X pins σ H s):∀x c,X.env.cells.lookup x=some c->c≠X.env.locals:=λx c e z=>by
 obtain⟨v,o,ho,hd⟩:=I.cell x c e;obtain⟨m,⟨o',es,ep,j,q,_⟩,_⟩:=I.loc;rw[z,j] at ho;cases ho;rw[q] at hd;cases hd
theorem Inv.funs(I:Inv X pins σ H s):s.heap.FunFrames X.base X.outer:=by
 have all:∀(l:List Env),(∀b∈frs l,b∈X.fs)->X.s₀.heap.FunFrames X.base l->s.heap.FunFrames X.base l:=by
  intro l
  induction l with
  |nil=>intro _ _;trivial
  |cons env r D =>
   intro B hl;obtain⟨U,⟨L,o,hf,O,J,hd⟩,G⟩:=hl;have q:L∈X.fs:=B L (by unfold frs;rw[cJ,hf];exact ak)
   obtain⟨sl,e⟩:=I.base.slot L o J (I.ok.frf L q) q λz=>I.ok.exfs L z q;exact⟨U,⟨L,_,hf,O,e,hd⟩,D (λb j=>B b (by unfold frs;rw[cJ,hf];exact ao _ j)) G⟩
 exact all X.outer (λ_ j=>j) I.ok.funs
theorem Inv.stack(I:Inv X pins σ H s):s.heap.FunFrames X.base X.stack:=by
 rcases I.ok.stk with e|⟨e,hf⟩
 ·rw[e];exact I.funs
 ·rw[e];obtain⟨m,j,_⟩:=I.loc;refine .cons (by rw[I.ok.kind];decide) hf j ?_ I.funs
  exact bu.get?_none_of_le (Nat.le_trans I.ok.bsz I.ok.above)
theorem Inv.stkSub(I:Inv X pins σ H s):∀b∈frs X.stack,b∈X.env.locals::X.fs:=λb j=>by
 rcases I.ok.stk with e|⟨e,hf⟩
 ·rw[e] at j;exact ao _ j
 ·rw[e] at j;unfold frs at j;rw[cJ,hf] at j;exact j
theorem Inv.stkFree(I:Inv X pins σ H s):∀b∈frs X.stack,H b=none:=λb j=>by
 rcases aD.mp (I.stkSub b j) with e|j
 ·rw[e];exact I.free
 ·obtain⟨_,o,q,_⟩:=I.ok.funs.mem j;exact I.base.free b o q (I.ok.frf b j) λz=>I.ok.exfs b z j
theorem Inv.step{g':Array GenState}{t':Nat}{d':Drawn}{ch:List Addr}(I:Inv X pins σ H s)
  (hch:∀b∈ch,(b∈X.ex\/X.s₀.heap.objs.size<=b)/\b≠X.env.locals/\(∀x c,X.env.cells.lookup x=some c->c≠b)/\∀p∈X.pn++pins,p.1≠b)
  (keep:∀b o,b≠X.env.locals->b∉X.fs->b∉ch->s.heap.get? b=some o->H b=none->h'.get? b=some o)
  (slot:∀b o,b≠X.env.locals->b∈X.fs->b∉ch->s.heap.get? b=some o->H b=none->∃sl,h'.get? b=some {o with slots:=sl}) (free:∀b o,b∉ch->s.heap.get? b=some o->H b=none->H' b=none)
  (there:∀b o,b∉ch->s.heap.get? b=some o->∃o',h'.get? b=some o')
  (tups:∀b xs,H b=some (.tup xs)->H' b=some (.tup xs)) (frzs:∀b o u,H b=some (.frz o u)->H' b=some (.frz o u)) (tbls:∀b ps,H b=some (.tbl ps)->∃more,H' b=some (.tbl (ps++more)))
  (ns:∀m,s.heap.Ns X.env.locals m->h'.Ns X.env.locals m) (hok:HOk X.prog X.w H' h') (hg:ja g') :
  Inv X pins σ H' {s with heap:=h',gens:=g',drawn:=d',toks:=t'}:=by
 have O:∀b o,X.s₀.heap.get? b=some o->b≠X.env.locals:=λb o e=>Nat.ne_of_lt (Nat.lt_of_lt_of_le (aA e) I.ok.above);have D:∀b o,X.s₀.heap.get? b=some o->b∉X.ex->b∉ch:=λb o e j J=>by
  rcases(hch b J).1 with z|z
  ·exact j z
  ·exact absurd (Nat.lt_of_lt_of_le (aA e) z) (Nat.lt_irrefl _)
 have cellK:∀x c,X.env.cells.lookup x=some c->∀v,s.heap.IsCell c v->h'.IsCell c v:=λx c e v ⟨o,L,hd⟩=>by
  have B:c∉ch:=λz=>(hch c z).2.2.1 x c e rfl
  by_cases hc:c∈X.fs
  ·obtain⟨sl,q⟩:=slot c o (I.cne x c e) hc B L (I.freeC x c e);exact⟨_,q,hd⟩
  ·exact⟨o,keep c o (I.cne x c e) hc B L (I.freeC x c e),hd⟩
 refine⟨I.ok,I.os,hg,⟨λb o e n J j=>?_,λb o e n J j=>?_,λb o e n j=>?_,λb o e j=>?_,λb xs e=>tups b xs (I.base.tups b xs e),λb o xs e=>frzs b o xs (I.base.frzs b o xs e),λb ps e=>?_⟩,?_,λx c e=>?_,?_,λx c e=>?_,λp hp=>?_,hok,I.len⟩
 ·exact keep b o (O b o e) J (D b o e j) (I.base.keep b o e n J j) (I.base.free b o e n j)
 ·obtain⟨sl,G⟩:=I.base.slot b o e n J j;obtain⟨Y,U⟩:=slot b _ (O b o e) J (D b o e j) G (I.base.free b o e n j);exact⟨Y,U⟩
 ·obtain⟨o',G⟩:=I.base.there b o e j;exact free b o' (D b o e j) G (I.base.free b o e n j)
 ·obtain⟨o',G⟩:=I.base.there b o e j;exact there b o' (D b o e j) G
 ·obtain⟨m1,G⟩:=I.base.tbls b ps e;obtain⟨m2,U⟩:=tbls b _ G;exact⟨m1++m2,by rw[U,Array.append_assoc]⟩
 ·obtain⟨m,hn,hl⟩:=I.loc;refine⟨m,ns m hn,λi x v G U e3=>?_⟩;obtain⟨u,r,l⟩:=hl i x v G U e3;refine⟨u,r,?_⟩;rcases l with l|⟨k,c,e,z⟩
  ·exact .inl l
  ·exact .inr ⟨k,c,e,cellK x c e _ z⟩
 ·obtain⟨v,z⟩:=I.cell x c e;exact⟨v,cellK x c e v z⟩
 ·obtain⟨m,⟨o,_,_,L,_⟩,_⟩:=I.loc;exact free _ o (λz=>(hch _ z).2.1 rfl) L I.free
 ·obtain⟨v,o,L,hd⟩:=I.cell x c e;exact free c o (λz=>(hch c z).2.2.1 x c e rfl) L (I.freeC x c e)
 ·obtain⟨e,n,ne,Z,d⟩:=I.pin p hp;have B:p.1∉ch:=λz=>(hch p.1 z).2.2.2 p hp rfl;exact⟨keep p.1 p.2 ne Z B e n,free p.1 p.2 B e n,ne,Z,d⟩
theorem Inv.un{t':Nat}(I:Inv X pins σ H s)(u:Un X.fs [] H H' s.heap h')(hok:HOk X.prog X.w H' h'):Inv X pins σ H' {s with heap:=h',toks:=t'}:=by
 obtain⟨m,⟨o,es,ep,D,r⟩,_⟩:=id I.loc;obtain⟨sl,J⟩:=u.any D I.free (by simp)
 exact I.step (g':=s.gens) (d':=s.drawn) (ch:=[]) (λ_ z=>nomatch z) (λb o _ j _ e n=>u.keep b o e n j (by simp)) (λb o _ j _ e n=>u.slot b o e n j (by simp)) (λb o _ e n=>u.free b o e n (by simp)) (λb o _ e=>u.there b o e (by simp)) u.tups u.frzs u.tbls (λL hm=>by
  obtain⟨o',q,B,ho',G⟩:=hm;rw[D] at ho';cases ho';exact⟨_,q,B,J,G⟩) hok I.bare
theorem Inv.call{g':Array GenState}{t':Nat}{d':Drawn}{ch:List Addr}(I:Inv X pins σ H s)(u:Un (frs X.stack) ch H H' s.heap h')(hok:HOk X.prog X.w H' h')(hg:ja g')
  (hch:∀b∈ch,(b∈X.ex\/X.s₀.heap.objs.size<=b)/\b≠X.env.locals/\(∀x c,X.env.cells.lookup x=some c->c≠b)/\∀p∈X.pn++pins,p.1≠b) :
  Inv X pins σ H' {s with heap:=h',gens:=g',drawn:=d',toks:=t'}:=by
 obtain⟨m,⟨o,es,ep,G,r⟩,_⟩:=id I.loc;obtain⟨sl,q⟩:=u.any G I.free λz=>(hch _ z).2.1 rfl;exact I.step (ch:=ch) hch (λb o q L j e n=>u.keep b o e n (λz=>(aD.mp (I.stkSub b z)).elim q L) j) (λb o _ _ j e n=>u.any e n j) (λb o j e n=>u.free b o e n j) (λb o j e=>u.there b o e j) u.tups u.frzs u.tbls (λO hm=>by
  obtain⟨o',B,D,ho',J⟩:=hm;rw[G] at ho';cases ho';exact⟨_,B,D,q,J⟩) hok hg
theorem Inv.turned{t':Nat}{it:Addr}(I:Inv X pins σ H s)(k:∀b o,b≠it->s.heap.get? b=some o->h'.get? b=some o)(hn:H it=none)(hL:it≠X.env.locals)
  (h1:it∈X.ex\/X.s₀.heap.objs.size<=it) (h2:∀x c,X.env.cells.lookup x=some c->c≠it) (h3:∀p∈X.pn++pins,p.1≠it):Inv X pins σ H {s with heap:=h',toks:=t'}:=by
 have B:∀b u,H b=some u->b≠it:=λb u e z=>by rw[z,hn] at e;cases e
 refine I.step (g':=s.gens) (d':=s.drawn) (ch:=[it]) (λb G=>?_) (λb o _ _ j e _=>k b o (λz=>j (by simp[z])) e) (λb o _ _ j e _=>⟨o.slots,k b o (λz=>j (by simp[z])) e⟩) (λ_ _ _ _ n=>n)
  (λb o j e=>⟨o,k b o (λz=>j (by simp[z])) e⟩) (λ_ _ e=>e) (λ_ _ _ e=>e) (λb ps e=>⟨#[],by rw[e];simp⟩) (λm hm=>?_) (λb u e=>?_) I.bare
 ·have e:b=it:=by simpa using G
  subst e;exact⟨h1,hL,h2,h3⟩
 ·obtain⟨o,es,ep,D,r⟩:=hm;exact⟨o,es,ep,k _ o (cA hL) D,r⟩
 ·refine(I.hok b u e).stay (λc v j q=>k c v ?_ q) (λ_ q=>q) λ_ _ q=>q;rcases j with z|z
  ·rw[z];exact B b u e
  ·exact B c _ z
theorem Inv.tok(I:Inv X pins σ H s)(t:Nat):Inv X pins σ H {s with toks:=t}:=I.un (h':=s.heap) (t':=t) Un.refl I.hok
theorem Inv.kept{t':Nat}(I:Inv X pins σ H s)(k:∀b u,s.heap.get? b=some u->h'.get? b=some u):Inv X pins σ H {s with heap:=h',toks:=t'}:=I.un (Un.kept k) (I.hok.kept k)
theorem Inv.laid{a:Addr}{o:HO}{t':Nat}(I:Inv X pins σ H s)(k:∀b u,s.heap.get? b=some u->h'.get? b=some u)(hp:s.heap.objs.size<=a)(new:ObjOk X.prog X.w (upd H a o) h' a o) :
  Inv X pins σ (upd H a o) {s with heap:=h',toks:=t'}:=I.un (Un.laid k hp (I.hok.fresh hp)) (I.hok.laid k hp new)
theorem Inv.write{x e:Addr}{o:HO}{t':Nat}(I:Inv X pins σ H s)(mu:Mut (H x))(he:e=x\/H e=some (.own x))(k:∀b u,b≠e->s.heap.get? b=some u->h'.get? b=some u)(heo:∃u,h'.get? e=some u)
  (new:ObjOk X.prog X.w (upd H x o) h' x o):Inv X pins σ (upd H x o) {s with heap:=h',toks:=t'}:=I.un (Un.write mu he k heo) (I.hok.write mu he k heo new)
theorem Inv.weak{σ':List (Option V)}(I:Inv X pins σ H s)(hl:σ'.length=σ.length)(w:∀(i:Nat) v,σ'[i]?=some (some v)->σ[i]?=some (some v)):Inv X pins σ' H s :=
 ⟨I.ok,I.os,I.bare,I.base,let ⟨m,q,j⟩:=I.loc;⟨m,q,λi x v D B z=>j i x v D (w i v B) z⟩,I.cell,I.free,I.freeC,I.pin,I.hok,hl.trans I.len⟩
theorem Inv.pins_of{pins':List (Addr×Obj)}(I:Inv X pins σ H s)(h:∀p∈pins',s.heap.get? p.1=some p.2/\H p.1=none/\p.1≠X.env.locals/\p.1∉X.fs/\∀v,p.2.data≠.cell v):Inv X pins' σ H s :=
 ⟨I.ok,I.os,I.bare,I.base,I.loc,I.cell,I.free,I.freeC,λp j=>(aS.mp j).elim (λz=>I.pin p (be _ z)) (h p),I.hok,I.len⟩
theorem nodup_ix{N:List Str}(hN:N.Nodup){i j:Nat}{x:Str}(a:N[i]?=some x)(b:N[j]?=some x):i=j:=by
 obtain⟨h1,z⟩:=aB.mp a;obtain⟨h2,q⟩:=aB.mp b;exact(List.getElem_inj hN).mp (z.trans q.symm)
theorem bX7{M:Model}{A:bj}{E:ae->aj->Prop}{i:Nat}{x:Str}{v:V}{u:ae}{Q:Unit->aj->Prop}(I:Inv X pins σ H s)(hN:X.N.Nodup)(hi:X.N[i]?=some x)(hx:Loc X.env.scope x)(r:RelV v u)
  (h:∀s',Inv X pins (σ.set i (some v)) H s'->(∃a,c9 a s.heap s'.heap/\(a=X.env.locals\/X.env.cells.lookup x=some a))->Q () s') (hf:X.fn x=true\/X.env.scope.names.lookup x=some .local:=by first|exact .inl rfl|exact .inr rfl|assumption):aE M A (storeName X.env x u) Q E s:=by
 obtain⟨m,hn,hl⟩:=id I.loc;have Y:(X.env.scope.kind ==.class||(X.env.scope.kind ==.module&&X.env.locals !=X.env.globals))=false:=by rw[I.ok.kind];rfl
 have hiσ:i<σ.length:=by rw[I.len];exact(aB.mp hi).1
 have cne:=I.cne;have tracked:∀{a:Addr}{h':bu},(∃o,s.heap.get? a=some o/\H a=none)->c9 a s.heap h'->HOk X.prog X.w H h':=λ{a h'} ha B b ob e=>by
  obtain⟨_,_,D⟩:=ha;refine(I.hok b ob e).stay (λc w' hc q=>(B.2 c ?_).trans q) (λ_ q=>q) λ_ _ q=>q;rintro rfl;rcases hc with rfl|hc
  ·rw[D] at e;cases e
  ·rw[D] at hc;cases hc
 rcases hx with hk|hk
 ·refine wpAny_storeName_local hk hn (λh' hn' B=>?_) Y;obtain⟨oL,_,_,hoL,_⟩:=id hn;refine h _ ⟨I.ok,I.os,I.bare,⟨λb o e n L hx=>?_,λb o e n L hx=>?_,I.base.free,λb o e hx=>?_,I.base.tups,I.base.frzs,I.base.tbls⟩,⟨_,hn',λj y v' e1 e2 e3=>?_⟩,λy c e=>?_,I.free,I.freeC,λp hp=>?_,tracked ⟨oL,hoL,I.free⟩ B,by simpa using I.len⟩ ⟨_,B,.inl rfl⟩
  ·exact(B.2 b (Nat.ne_of_lt (Nat.lt_of_lt_of_le (aA e) I.ok.above))).trans (I.base.keep b o e n L hx)
  ·obtain⟨sl,e1⟩:=I.base.slot b o e n L hx;exact⟨sl,(B.2 b (Nat.ne_of_lt (Nat.lt_of_lt_of_le (aA e) I.ok.above))).trans e1⟩
  ·obtain⟨o',e1⟩:=I.base.there b o e hx;exact⟨o',(B.2 b (Nat.ne_of_lt (Nat.lt_of_lt_of_le (aA e) I.ok.above))).trans e1⟩
  ·by_cases G:j=i
   ·subst G;rw[hi] at e1;cases e1;rw[List.getElem?_set_self hiσ] at e2;cases e2;exact⟨u,r,.inl ⟨hk,by simp⟩⟩
   ·rw[fN (cA G)] at e2;obtain⟨u',r',q⟩:=hl j y v' e1 e2 e3;refine⟨u',r',?_⟩;rcases q with⟨k,e⟩|⟨k,c,e,z⟩
    ·refine .inl ⟨k,?_⟩
     have:y≠x:=λe=>G (nodup_ix hN e1 (e▸hi))
     simp[this,e]
    ·exact .inr ⟨k,c,e,z.sameBut B (cne y c e)⟩
  ·obtain⟨w',z⟩:=I.cell y c e;exact⟨w',z.sameBut B (cne y c e)⟩
  ·obtain⟨e,n,ne,nf,d⟩:=I.pin p hp;exact⟨(B.2 p.1 ne).trans e,n,ne,nf,d⟩
 ·have J:X.fn x=true:=by
   rcases hf with z|z
   ·exact z
   ·rw[z] at hk;cases hk
  obtain⟨c,hc⟩:=I.ok.has x (.inl hk);obtain⟨w',z⟩:=I.cell x c hc;refine wpAny_storeName_cell I.ok.kind hk hc z (λh' hc' B=>?_);obtain⟨oc,U,O⟩:=id z;refine h {s with heap:=h'} ⟨I.ok,I.os,I.bare,⟨λb o e n L hx=>?_,λb o e n L hx=>?_,I.base.free,λb o e hx=>?_,I.base.tups,I.base.frzs,I.base.tbls⟩,⟨m,hn.sameBut B (cA (cne x c hc)),λj y v' e1 e2 e3=>?_⟩,λy c' e=>?_,I.free,I.freeC,λp hp=>?_,tracked ⟨oc,U,I.freeC x c hc⟩ B,by simpa using I.len⟩ ⟨c,B,.inr hc⟩
  ·exact(B.2 b (Nat.ne_of_lt (Nat.lt_of_lt_of_le (aA e) (I.ok.cab x c J hc)))).trans (I.base.keep b o e n L hx)
  ·obtain⟨sl,e1⟩:=I.base.slot b o e n L hx;exact⟨sl,(B.2 b (Nat.ne_of_lt (Nat.lt_of_lt_of_le (aA e) (I.ok.cab x c J hc)))).trans e1⟩
  ·obtain⟨o',e1⟩:=I.base.there b o e hx;exact⟨o',(B.2 b (Nat.ne_of_lt (Nat.lt_of_lt_of_le (aA e) (I.ok.cab x c J hc)))).trans e1⟩
  ·by_cases G:j=i
   ·subst G;rw[hi] at e1;cases e1;rw[List.getElem?_set_self hiσ] at e2;cases e2;exact⟨u,r,.inr ⟨.inl hk,c,hc,hc'⟩⟩
   ·rw[fN (cA G)] at e2;obtain⟨u',r',q⟩:=hl j y v' e1 e2 e3;refine⟨u',r',?_⟩;rcases q with q|⟨k,c',e,z'⟩
    ·exact .inl q
    ·refine .inr ⟨k,c',e,z'.sameBut B ?_⟩;rintro rfl;exact G (nodup_ix hN e1 (I.ok.inj _ _ _ e hc▸hi))
  ·by_cases Z:c'=c
   ·subst Z;exact⟨_,hc'⟩
   ·obtain⟨w2,z2⟩:=I.cell y c' e;exact⟨w2,z2.sameBut B Z⟩
  ·obtain⟨e,n,ne,nf,d⟩:=I.pin p hp;refine⟨(B.2 p.1 ?_).trans e,n,ne,nf,d⟩;intro q;rw[q,U] at e;have q':oc=p.2:=aO e;exact d w' (by rw[<- q'];exact O)
theorem store_ok{M:Model}{A:bj}{E:ae->aj->Prop}{i:Nat}{x:Str}{v:V}{u:ae}{Q:Unit->aj->Prop}(I:Inv X pins σ H s)(hN:X.N.Nodup)(hi:X.N[i]?=some x)(hx:Loc X.env.scope x)(r:RelV v u)
  (h:∀s',Inv X pins (σ.set i (some v)) H s'->Q () s') (hf:X.fn x=true\/X.env.scope.names.lookup x=some .local:=by first|exact .inl rfl|exact .inr rfl|assumption):aE M A (storeName X.env x u) Q E s :=
 bX7 I hN hi hx r (λs' j _=>h s' j) hf
theorem Inv.call'{s':aj}{ch:List Addr}(I:Inv X pins σ H s)(ho:s'.os=s.os)(u:Un (frs X.stack) ch H H' s.heap s'.heap)(hok:HOk X.prog X.w H' s'.heap)(hg:ja s'.gens)
  (hch:∀b∈ch,(b∈X.ex\/X.s₀.heap.objs.size<=b)/\b≠X.env.locals/\(∀x c,X.env.cells.lookup x=some c->c≠b)/\∀p∈X.pn++pins,p.1≠b):Inv X pins σ H' s':=by
 obtain⟨h',g',d',t',o'⟩:=s';have e:o'=s.os:=ho;subst e;exact I.call (g':=g') (t':=t') (d':=d') u hok hg hch
end
abbrev XK:=ae->Option Addr->Hp->Prop
abbrev St:=List (Option V)
abbrev VK:=V->Hp->Prop
abbrev TE:=St->Hp->VK->Prop
abbrev TT:=St->Hp->(Bool->Hp->Prop)->Prop
abbrev TA:=St->Hp->(List V->Hp->Prop)->Prop
structure Ends where
 nx:St->Hp->Prop
 rt:VK
 bk:St->Hp->Prop:=λ_ _=>False
 ct:St->Hp->Prop:=λ_ _=>False
abbrev TS:=Ends->St->Hp->Prop
def EP(X:Cx)(pins:List (Addr×Obj))(σ:St)(Q:VK)(u:ae)(s':aj):Prop:=∃v H',Inv X pins σ H' s'/\RelV v u/\Q v H'
def TP(X:Cx)(pins:List (Addr×Obj))(σ:St)(Q:Bool->Hp->Prop)(b:Bool)(s':aj):Prop:=∃H',Inv X pins σ H' s'/\Q b H'
def AP(X:Cx)(pins:List (Addr×Obj))(σ:St)(Q:List V->Hp->Prop)(us:List ae)(s':aj):Prop:=∃vs H',Inv X pins σ H' s'/\Vals vs us/\Q vs H'
def SP(X:Cx)(pins:List (Addr×Obj))(D:Ends)(f:Flow)(s':aj):Prop :=
 match f with
 |.next=>∃σ' H',Inv X pins σ' H' s'/\D.nx σ' H'
 |.brk=>∃σ' H',Inv X pins σ' H' s'/\D.bk σ' H'
 |.cont=>∃σ' H',Inv X pins σ' H' s'/\D.ct σ' H'
 |.ret u=>∃v σ' H',Inv X pins σ' H' s'/\RelV v u/\D.rt v H'
def PE(X:Cx)(e:Expr)(t:TE):Prop :=
 ∀(pins:List (Addr×Obj)) (s:aj) (σ:St) (H:Hp) (Q:VK),Inv X pins σ H s->t σ H Q->aE (aF X.prog X.w) X.A (eval e X.env) (EP X pins σ Q) X.xe s
def PT(X:Cx)(e:Expr)(t:TT):Prop :=
 ∀(pins:List (Addr×Obj)) (s:aj) (σ:St) (H:Hp) (Q:Bool->Hp->Prop),Inv X pins σ H s->t σ H Q->aE (aF X.prog X.w) X.A (isTrue e X.env (eval e X.env)) (TP X pins σ Q) X.xe s
def PW(X:Cx)(e:Expr)(t:TT):Prop :=
 ∀(whole:Sem ae) (pins:List (Addr×Obj)) (s:aj) (σ:St) (H:Hp) (Q:Bool->Hp->Prop),Inv X pins σ H s->t σ H Q->aE (aF X.prog X.w) X.A (isTrue e X.env whole) (TP X pins σ Q) X.xe s
theorem PW.pt{X:Cx}{e:Expr}{t:TT}(h:PW X e t):PT X e t:=h _
def PA(X:Cx)(es:List Expr)(t:TA):Prop :=
 ∀(pos:Pos) (pins:List (Addr×Obj)) (s:aj) (σ:St) (H:Hp) (Q:List V->Hp->Prop),Inv X pins σ H s->t σ H Q->aE (aF X.prog X.w) X.A (spliced (cO pos (aC es X.env))) (AP X pins σ Q) X.xe s
def PS(X:Cx)(st:Stmt)(t:TS):Prop :=
 ∀(pins:List (Addr×Obj)) (s:aj) (σ:St) (H:Hp) (D:Ends),Inv X pins σ H s->t D σ H->aE (aF X.prog X.w) X.A (exec st X.env) (SP X pins D) X.xe s
def PSs(X:Cx)(st:List Stmt)(t:TS):Prop :=
 ∀(pins:List (Addr×Obj)) (s:aj) (σ:St) (H:Hp) (D:Ends),Inv X pins σ H s->t D σ H->aE (aF X.prog X.w) X.A (execs st X.env) (SP X pins D) X.xe s
theorem thn{α:Type}{t:Sem α}{Q Q':α->aj->Prop}{M:Model}{A:bj}{E:ae->aj->Prop}{s:aj}(h:aE M A t Q E s)(hQ:∀a s,Q a s->Q' a s):aE M A t Q' E s:=eB h hQ λ_ _ x=>x
section
variable{X:Cx}
def tVar(i:Nat):TE:=fun σ H Q=>∃v,σ[i]?=some (some v)/\Q v H
def tC(v:V):TE:=λ_ H Q=>Q v H
theorem eXw{i:Nat}{x:Str}{pos:Pos}(hN:X.N[i]?=some x)(hv:Vis X.env.scope x)(hd:(x==("__debug__":Str))=false:=by decide)(hcd:(x==("__classdict__":Str))=false:=by decide):PE X (.Name x pos) (tVar i):=by
 intro pins s σ H Q I h;obtain⟨v,e,h⟩:=h;obtain⟨m,B,hl⟩:=I.loc;obtain⟨u,r,l⟩:=hl i x v hN e hv;have fin:EP X pins σ Q u s:=⟨v,H,I,r,h⟩;rcases l with⟨q,hm⟩|⟨q,c,z,j⟩
 ·exact wpAny_Name (wpAny_loadName_local I.ok.kind q B hm fin) hd
 ·rcases q with q|q
  ·exact wpAny_Name (wpAny_loadName_cell I.ok.kind q z j fin) hd
  ·exact wpAny_Name (wpAny_loadName_free I.ok.kind q z j fin hcd) hd
theorem eXx{i j pos}:PE X (.Constant (.int i) j pos) (tC (.int i)):=λ_ _ _ H _ I h=>wpAny_Constant_int ⟨.int i,H,I.tok _,⟨_,rfl⟩,h⟩
theorem fX9{b j pos}:PE X (.Constant (.bool b) j pos) (tC (.bl b)):=λ_ _ _ H _ I h=>Constant_bool ⟨.bl b,H,I,rfl,h⟩
theorem eXy{x j pos}:PE X (.Constant (.str x) j pos) (tC (.str x)):=λ_ _ _ H _ I h=>Calls.Constant_str ⟨.str x,H,I.tok _,⟨_,rfl⟩,h⟩
def Gl(X:Cx)(x:Str):Prop:=X.env.kindOf x=some .globalImplicit
theorem ld_glob{E:ae->aj->Prop}{pins:List (Addr×Obj)}{s:aj}{σ:St}{H:Hp}{x:Str}{u:ae}{pos:Pos}{Q:ae->aj->Prop}(I:Inv X pins σ H s)(hg:Gl X x)(hm:X.mg x=some u)(h:Q u s)
  (hd:(x==("__debug__":Str))=false:=by decide):aE (aF X.prog X.w) X.A (eval (.Name x pos) X.env) Q E s :=
 iK I.ok.kind hg (Calls.loadGlobal_global (by rw[I.ok.glob];exact I.mod.glob.keeps I.bk) hm h) hd
theorem ld_blt{E:ae->aj->Prop}{pins:List (Addr×Obj)}{s:aj}{σ:St}{H:Hp}{x:Str}{u:ae}{pos:Pos}{Q:ae->aj->Prop}(I:Inv X pins σ H s)(hg:Gl X x)(hm:X.mg x=none)(hv:cI x=some u)(h:Q u s)
  (hn:x ≠ "__name__":=by decide) (hd:(x==("__debug__":Str))=false:=by decide):aE (aF X.prog X.w) X.A (eval (.Name x pos) X.env) Q E s:=by
 obtain⟨j,h1,h2⟩:=I.mod.blt;exact iK I.ok.kind hg (Calls.loadGlobal_builtin (by rw[I.ok.glob];exact I.mod.glob.keeps I.bk) hm (by rw[I.ok.blt];exact h1.keeps I.bk) ((h2 x hn).trans hv) h) hd
variable{a b:Expr}{ta tb:TE}{pos:Pos}
variable{tA tB':TT}{rest:List Expr}
def tAnd(t u:TT):TT:=fun σ H Q=>t σ H λc H1=>if c=true then u σ H1 Q else Q false H1
def tOr(t u:TT):TT:=fun σ H Q=>t σ H λc H1=>if c=true then Q true H1 else u σ H1 Q
def tNot(t:TT):TT:=fun σ H Q=>t σ H λc H1=>Q (!c) H1
theorem dJt(ha:PT X a tA):PW X (.BoolOp .And [a] pos) tA:=by
 intro j pins s σ H Q I h;refine isTrue_and (thn (ha pins s σ H Q I h) λc s1 e=>?_);cases c with
 |true=>exact isTrue_and_nil e
 |false=>exact e
theorem eXz(ha:PT X a tA):PW X (.BoolOp .Or [a] pos) tA:=by
 intro j pins s σ H Q I h;refine isTrue_or (thn (ha pins s σ H Q I h) λc s1 e=>?_);cases c with
 |false=>exact isTrue_or_nil e
 |true=>exact e
theorem eJ0(ha:PT X a tA)(hb:PW X (.BoolOp .And (b::rest) pos) tB'):PW X (.BoolOp .And (a::b::rest) pos) (tAnd tA tB'):=by
 intro z pins s σ H Q I h;refine isTrue_and (thn (ha pins s σ H _ I h) λc s1 ⟨H1,q,j⟩=>?_);cases c with
 |true=>exact hb z pins s1 σ H1 Q q j
 |false=>exact⟨H1,q,j⟩
theorem fXa(ha:PT X a tA)(hb:PW X (.BoolOp .Or (b::rest) pos) tB'):PW X (.BoolOp .Or (a::b::rest) pos) (tOr tA tB'):=by
 intro z pins s σ H Q I h;refine isTrue_or (thn (ha pins s σ H _ I h) λc s1 ⟨H1,q,j⟩=>?_);cases c with
 |true=>exact⟨H1,q,j⟩
 |false=>exact hb z pins s1 σ H1 Q q j
theorem eJ1(ha:PT X a tA):PT X (.UnaryOp .Not a pos) (tNot tA):=by
 intro pins s σ H Q I h;exact isTrue_not (ha pins s σ H (λc H1=>Q (!c) H1) I h)
def tIf(t:TT)(ta tb:TE):TE:=fun σ H Q=>t σ H λc H1=>if c=true then ta σ H1 Q else tb σ H1 Q
theorem dQo{c:Expr}(hc:PT X c tA)(ha:PE X a ta)(hb:PE X b tb):PE X (.IfExp c a b pos) (tIf tA ta tb):=by
 intro pins s σ H Q I h;refine wpAny_IfExp (thn (hc pins s σ H _ I h) λd s1 ⟨H1,q,j⟩=>?_);cases d with
 |true=>exact ha pins s1 σ H1 Q q j
 |false=>exact hb pins s1 σ H1 Q q j
end
def SqL(K:ay)(H:Hp)(a:Addr)(xs:List V):Prop :=
 Rd H a (.lst xs) \/
  ∃(o:Obj) (its:Array ae) (n:Nat),K.lookup a=some o/\o.cls=.type "list"/\o.dict=none/\o.data=.seq its n/\its.size<=sizeLine/\Vals xs its.toList
def SqT(K:ay)(H:Hp)(a:Addr)(xs:List V):Prop :=
 Rd H a (.tup xs) \/
  ∃(o:Obj) (its:Array ae) (n:Nat),K.lookup a=some o/\o.cls=.type "tuple"/\o.dict=none/\o.data=.seq its n/\its.size<=sizeLine/\Vals xs its.toList
def absV:ae->Option V
 |.none=>some .non
 |.bool b=>some (.bl b)
 |.int i _=>some (.int i)
 |.str x _=>some (.str x)
 |.bytes b _=>some (.byt b)
 |.float b _=>some (.flt b)
 |.ref a=>some (.ref a)
 |.type n=>some (.ty n)
 |_=>none
theorem RelV.abs{x:V}{u:ae}(r:RelV x u):absV u=some x:=by
 cases x with
 |non=>cases r;rfl
 |bl _=>cases r;rfl
 |int _=>obtain⟨t,rfl⟩:=r;rfl
 |str _=>obtain⟨t,rfl⟩:=r;rfl
 |byt _=>obtain⟨t,rfl⟩:=r;rfl
 |flt _=>obtain⟨t,rfl⟩:=r;rfl
 |ref _=>cases r;rfl
 |ty _=>cases r;rfl
theorem RelV.inj{x y:V}{u:ae}(r:RelV x u)(q:RelV y u):x=y:=aO (r.abs.symm.trans q.abs)
theorem Vals.inj:∀{xs ys:List V}{us:List ae},Vals xs us->Vals ys us->xs=ys
 |_,_,_,.nil,.nil=>rfl
 |_,_,_,.cons r t,.cons q j=>by rw[r.inj q,Vals.inj t j]
section
variable{X:Cx}{pins:List (Addr×Obj)}{σ:St}{H:Hp}{s:aj}{a:Addr}{xs ys:List V}
theorem SqL.of{K:ay}(h:H a=some (.lst xs)):SqL K H a xs:=.inl (.inl h)
theorem Inv.list(I:Inv X pins σ H s)(h:SqL X.K H a xs):∃its:List ae,Vals xs its/\PlainL s.heap a its.toArray/\xs.length<=sizeLine:=by
 rcases h with h|⟨o,its,n,q,B,hd,j,D,r⟩
 ·obtain⟨z,its,n,r,e⟩:=h.ok I.hok;exact⟨its,r,⟨_,n,e,rfl,rfl,rfl⟩,z⟩
 ·refine⟨its.toList,r,⟨o,n,I.kIn a o q,B,hd,by simpa using j⟩,?_⟩
  have e:=r.length;simp only[bn] at e;omega
theorem Inv.tuple(I:Inv X pins σ H s)(h:SqT X.K H a xs):∃its:List ae,Vals xs its/\i8 s.heap a its.toArray/\xs.length<=sizeLine:=by
 rcases h with h|⟨o,its,n,q,B,_,j,D,r⟩
 ·obtain⟨z,its,r,p,_⟩:=h.ok I.hok;exact⟨its,r,p,z⟩
 ·refine⟨its.toList,r,⟨o,I.kIn a o q,B,n,by simpa using j⟩,?_⟩
  have e:=r.length;simp only[bn] at e;omega
theorem Inv.list_inj(I:Inv X pins σ H s)(h:SqL X.K H a xs)(h':SqL X.K H a ys):xs=ys:=by
 obtain⟨j,r,⟨o,n,e,_,_,d⟩,_⟩:=I.list h;obtain⟨its',z,⟨o',D,e',_,_,q⟩,_⟩:=I.list h';rw[e] at e';cases e';rw[d] at q;injection q with B _
 have:j=its':=by simpa using congrArg Array.toList B
 subst this;exact r.inj z
theorem Inv.tuple_inj(I:Inv X pins σ H s)(h:SqT X.K H a xs)(h':SqT X.K H a ys):xs=ys:=by
 obtain⟨j,r,⟨o,e,_,n,d⟩,_⟩:=I.tuple h;obtain⟨its',z,⟨o',e',_,D,q⟩,_⟩:=I.tuple h';rw[e] at e';cases e';rw[d] at q;injection q with B _
 have:j=its':=by simpa using congrArg Array.toList B
 subst this;exact r.inj z
end
abbrev Cx.wish(X:Cx)(E:ae->aj->Prop):Cx:={X with xe:=E}
abbrev Cx.nox(X:Cx):Cx:=X.wish λ_ _=>False
theorem Cx.Ok.wish{X:Cx}(ok:X.Ok)(E:ae->aj->Prop):(X.wish E).Ok :=
 ⟨ok.mod,ok.kind,ok.glob,ok.blt,ok.above,ok.inj,ok.has,ok.cab,ok.hd,ok.frames,ok.gd,ok.stk,ok.exf,ok.bs,ok.bsz,ok.noex,ok.exfs,ok.funs,ok.frf⟩
theorem Cx.Ok.unwish{X:Cx}{E:ae->aj->Prop}(ok:(X.wish E).Ok):X.Ok :=
 ⟨ok.mod,ok.kind,ok.glob,ok.blt,ok.above,ok.inj,ok.has,ok.cab,ok.hd,ok.frames,ok.gd,ok.stk,ok.exf,ok.bs,ok.bsz,ok.noex,ok.exfs,ok.funs,ok.frf⟩
section
variable{X:Cx}{pins:List (Addr×Obj)}{σ:St}{H:Hp}{s:aj}{E:ae->aj->Prop}
theorem Inv.wish(I:Inv X pins σ H s)(E:ae->aj->Prop):Inv (X.wish E) pins σ H s:=⟨I.ok.wish E,I.os,I.bare,I.base,I.loc,I.cell,I.free,I.freeC,I.pin,I.hok,I.len⟩
theorem Inv.unwish(I:Inv (X.wish E) pins σ H s):Inv X pins σ H s:=⟨I.ok.unwish,I.os,I.bare,I.base,I.loc,I.cell,I.free,I.freeC,I.pin,I.hok,I.len⟩
theorem SP.unwish{D:Ends}{f:Flow}{s':aj}(h:SP (X.wish E) pins D f s'):SP X pins D f s':=by
 cases f with
 |next=>obtain⟨σ',H',I,q⟩:=h;exact⟨σ',H',I.unwish,q⟩
 |brk=>obtain⟨σ',H',I,q⟩:=h;exact⟨σ',H',I.unwish,q⟩
 |cont=>obtain⟨σ',H',I,q⟩:=h;exact⟨σ',H',I.unwish,q⟩
 |ret u=>obtain⟨v,σ',H',I,r,q⟩:=h;exact⟨v,σ',H',I.unwish,r,q⟩
theorem PSs.nox{st:List Stmt}{t:TS}(h:PSs X.nox st t):PSs X st t:=λpins s σ H D I hw =>
 eB (h pins s σ H D (I.wish _) hw) (λ_ _ q=>q.unwish) λ_ _ z=>eC z
end
section
variable{X:Cx}{st:Stmt}{rest:List Stmt}{t u:TS}{e:Expr}{te:TE}{pos:Pos}
def fXb:TS:=λD σ H=>D.nx σ H
def tSeq(t u:TS):TS:=λD σ H=>t {D with nx:=u D} σ H
theorem dJu:PSs X [] fXb:=λ_ _ σ H _ I h=>ir ⟨σ,H,I,h⟩
theorem dQp(h1:PS X st t)(h2:PSs X rest u):PSs X (st::rest) (tSeq t u):=by
 intro pins s σ H D I h;refine wpAny_execs_cons (thn (h1 pins s σ H {D with nx:=u D} I h) λf s1 q=>?_)
 cases f with
 |next =>
  obtain⟨σ',H',j,q⟩:=q;exact h2 pins s1 σ' H' D j q
 |ret v=>exact q
 |brk=>exact q
 |cont=>exact q
theorem dJv(h1:PS X st t):PSs X [st] t:=by
 intro pins s σ H D I h;refine wpAny_execs_cons (thn (h1 pins s σ H D I h) λf s1 q=>?_);cases f with
 |next=>exact ir q
 |ret v=>exact q
 |brk=>exact q
 |cont=>exact q
theorem Inv.quiet{pins:List (Addr×Obj)}{σ:St}{H:Hp}{s:aj}(I:Inv X pins σ H s):interactive X.env=false:=by simp[interactive,I.ok.kind]
def fXc(te:TE):TS:=λD σ H=>te σ H λ_ H1=>D.nx σ H1
theorem dJw(he:PE X e te)(hs:g9 e none pos.line X.env=pure false:=by rfl):PS X (.Expr e pos) (fXc te):=by
 intro pins s σ H D I h;exact wpAny_Expr_any (thn (he pins s σ H _ I h) λv s1 ⟨x,H1,q,z,j⟩=>⟨σ,H1,q,j⟩) I.quiet hs
def tRet(te:TE):TS:=λD σ H=>te σ H D.rt
theorem eJ2(he:PE X e te):PS X (.Return (some e) pos) (tRet te):=by
 intro pins s σ H D I h;exact wpAny_Return_some (thn (he pins s σ H _ I h) λv s1 ⟨x,H1,z,j,q⟩=>⟨x,σ,H1,z,j,q⟩)
def tIfS(c:TT)(t u:TS):TS:=λD σ H=>c σ H λb H1=>if b=true then t D σ H1 else u D σ H1
theorem fXd{c:Expr}{a b:List Stmt}{tc:TT}(hc:PT X c tc)(ha:PSs X a t)(hb:PSs X b u):PS X (.If c a b pos) (tIfS tc t u):=by
 intro pins s σ H D I h;refine wpAny_If (thn (hc pins s σ H _ I h) λd s1 ⟨H1,q,j⟩=>?_);cases d with
 |true=>exact ha pins s1 σ H1 D q j
 |false=>exact hb pins s1 σ H1 D q j
end
abbrev TG:=V->St->Hp->(St->Hp->Prop)->Prop
abbrev TGs:=List V->St->Hp->(St->Hp->Prop)->Prop
def PG(X:Cx)(target:Expr)(t:TG):Prop :=
 ∀(pins:List (Addr×Obj)) (s:aj) (σ:St) (H:Hp) (v:V) (u:ae) (Q:St->Hp->Prop),Inv X pins σ H s->RelV v u->t v σ H Q ->
  aE (aF X.prog X.w) X.A (jn target X.env u) (λ_ s'=>∃σ' H',Inv X pins σ' H' s'/\Q σ' H') X.xe s
def PGs(X:Cx)(ts:List Expr)(t:TGs):Prop :=
 ∀(pins:List (Addr×Obj)) (s:aj) (σ:St) (H:Hp) (vs:List V) (us:List ae) (Q:St->Hp->Prop),Inv X pins σ H s->Vals vs us->t vs σ H Q ->
  aE (aF X.prog X.w) X.A (assignInOrder ((dj ts X.env).map (·.2)) us) (λ_ s'=>∃σ' H',Inv X pins σ' H' s'/\Q σ' H') X.xe s
abbrev TSet:=V->V->V->Hp->(Hp->Prop)->Prop
def PSet(X:Cx)(t:TSet):Prop :=
 ∀(pins:List (Addr×Obj)) (s:aj) (σ:St) (H:Hp) (o i v:V) (ov iv u:ae) (Q:Hp->Prop),Inv X pins σ H s->RelV o ov->RelV i iv->RelV v u->t o i v H Q ->
  aE (aF X.prog X.w) X.A (setItem ov iv u) (λ_ s'=>∃H',Inv X pins σ H' s'/\Q H') X.xe s
section
variable{X:Cx}{pos:Pos}
def bQl(i:Nat):TG:=λv σ H Q=>Q (σ.set i (some v)) H
theorem aQd{i:Nat}{x:Str}(hN:X.N.Nodup)(hi:X.N[i]?=some x)(hx:Loc X.env.scope x)(hf:X.fn x=true\/X.env.scope.names.lookup x=some .local:=by first|exact .inl rfl|exact .inr rfl|assumption):PG X (.Name x pos) (bQl i):=by
 intro pins s σ H v u Q I r h;exact wpAny_assign_Name (store_ok I hN hi hx r (λs' j=>⟨_,H,j,h⟩) hf)
def gNil:TGs:=λvs σ H Q=>vs=[]/\Q σ H
def bJ5(t:TG)(u:TGs):TGs:=λvs σ H Q=>∃v r,vs=v::r/\t v σ H fun σ' H'=>u r σ' H' Q
theorem bZ5:PGs X [] gNil:=by
 intro pins s σ H vs us Q I r h;obtain⟨e,h⟩:=h;subst e;cases r;exact assignInOrder_nil ⟨σ,H,I,h⟩
theorem aZr{e:Expr}{es:List Expr}{t:TG}{u:TGs}(h1:PG X e t)(h2:PGs X es u)
  (hs:(dj (e::es) X.env).map (·.2)=jn e X.env::(dj es X.env).map (·.2):=by rfl):PGs X (e::es) (bJ5 t u):=by
 intro pins s σ H vs us Q I r h;obtain⟨v,D,z,h⟩:=h;subst z;cases r with
 |cons r j =>
  rw[hs];refine assignInOrder_cons (thn (h1 pins s σ H _ _ _ I r h) λ_ s1 ⟨σ1,H1,B,q⟩=>?_);exact h2 pins s1 σ1 H1 _ _ Q B j q
def gTup(K:ay)(n:Nat)(t:TGs):TG:=λv σ H Q=>∃a xs,v=.ref a/\SqT K H a xs/\xs.length=n/\t xs σ H Q
theorem cQ6{es:List Expr}{k:Nat}{t:TGs}{n:Nat}(hc:X.calm=true)(h:PGs X es t)
  (hn:(dj es X.env).length=n:=by rfl) (hst:(dj es X.env).findIdx? (·.1)=none:=by rfl):PG X (.Tuple es k pos) (gTup X.K n t):=by
 intro pins s σ H v u Q I r hw;obtain⟨a,xs,G,D,hl,hw⟩:=hw;subst G;cases r;obtain⟨q,j,B,L⟩:=I.tuple D;refine assign_Tuple_tuple (I.ok.hd hc) B (by simp[hn,<- hl,j.length]) hst λh' z=>?_
 have J:Inv X pins σ H {s with heap:=h'}:=I.kept (t':=s.toks) λb o e=>z b o (Nat.ne_of_lt (aA e)) e
 exact h pins _ σ H xs _ Q J (by simpa using j) hw
def gSub(to ti:TE)(t:TSet):TG:=λv σ H Q=>to σ H λo H1=>ti σ H1 λi H2=>t o i v H2 λH3=>Q σ H3
theorem eJ3{o i:Expr}{to ti:TE}{t:TSet}(ho:PE X o to)(hi:PE X i ti)(hs:PSet X t)
  (ha:∀ v,jn (.Subscript o i pos) X.env v=(do
   let ov <- fW [v] (eval o X.env)
   let iv <- fW [v,ov] (eval i X.env)
   fX pos
   fW [v,ov,iv] (setItem ov iv v)
   release [v,ov,iv] []):=by intro _;rfl):PG X (.Subscript o i pos) (gSub to ti t):=by
 intro pins s σ H v u Q I r h;rw[ha];refine aa (bq (thn (ho pins s σ H _ I h) λov s1 ⟨x,H1,L,q,D⟩=>?_));refine aa (bq (thn (hi pins s1 σ H1 _ L D) λiv s2 ⟨y,H2,J,j,B⟩=>?_));refine aa (eK (aa (bq (thn (hs pins s2 σ H2 x y v ov iv u _ J q j r B) λ_ s3 ⟨O,G,z⟩=>?_))));exact wpAny_release ⟨σ,O,G,z⟩
def tAsg(te:TE)(g:TG):TS:=λD σ H=>te σ H λx H1=>g x σ H1 D.nx
theorem eJ4{tg e:Expr}{te:TE}{g:TG}(he:PE X e te)(hg:PG X tg g)(hs:swapsWithSole [tg] e pos.line X.env=pure false:=by rfl)(hw:swappedStores [tg] e X.env=pure none:=by rfl)
  (h1:(dj [tg] X.env).map (·.2)=[jn tg X.env]:=by rfl):PS X (.Assign [tg] e pos) (tAsg te g):=by
 intro pins s σ H D I h;refine wpAny_Assign_stores (thn (he pins s σ H _ I h) λv s1 ⟨x,H1,B,j,z⟩=>?_) hs hw;rw[h1];exact thn (hg pins s1 σ H1 x v _ B j z) λ_ s2 q=>q
theorem eJ5{i:Nat}{x:Str}{e:Expr}{te:TE}{pos':Pos}(hN:X.N.Nodup)(hi:X.N[i]?=some x)(hx:Loc X.env.scope x)(he:PE X e te)(hs:g9 e (some (.Name x pos')) pos.line X.env=pure false:=by rfl)(hf:X.fn x=true\/X.env.scope.names.lookup x=some .local:=by first|exact .inl rfl|exact .inr rfl|assumption) :
  PS X (.Assign [.Name x pos'] e pos) (tAsg te (bQl i)):=by
 intro pins s σ H D I h;refine wpAny_Assign_Name (thn (he pins s σ H _ I h) λv s1 ⟨y,H1,B,j,q⟩=>?_) hs;exact store_ok B hN hi hx j (λs2 z=>⟨_,H1,z,q⟩) hf
end
section
variable{X:Cx}{pos:Pos}
def eJ6(c:TT)(tb:TS):TS:=λD σ H=>∃W:Nat->St->Hp->Prop,(∃m,W m σ H)/\∀m σ H,W m σ H ->
 c σ H λb H1=>if b=true then ∃N:St->Hp->Prop,(∀σ' H',N σ' H'->∃m',m'<m/\W m' σ' H')/\tb {D with nx:=N,ct:=N,bk:=D.nx} σ H1 else D.nx σ H1
theorem dQq{c:Expr}{body:List Stmt}{tc:TT}{tb:TS}(hp:PassesOwn (aF X.prog X.w) X.A X.env X.xe)(hc:PT X c tc)(hb:PSs X body tb):PS X (.While c body [] pos) (eJ6 tc tb):=by
 intro pins s σ H D I h;obtain⟨W,⟨m0,Z⟩,turn⟩:=h;refine wpAny_While (codeAny_whileLoop (λn s'=>∃σ' H',Inv X pins σ' H' s'/\W n σ' H') ?_ m0 ⟨σ,H,I,Z⟩);rintro n s1 ⟨σ1,H1,I1,Y⟩;refine eZ hp (thn (hc pins s1 σ1 H1 _ I1 (turn n σ1 H1 Y)) λb s2 ⟨H2,U,z⟩=>?_);cases b with
 |true =>
  obtain⟨N,O,z⟩:=z;rw[if_pos rfl];refine eZ hp (thn (hb pins s2 σ1 H2 _ U z) λf s3 q=>?_);cases f with
  |next =>
   obtain⟨σ3,j,L,G⟩:=q;obtain⟨J,hm,B⟩:=O σ3 j G;exact⟨J,hm,σ3,j,L,B⟩
  |cont =>
   obtain⟨σ3,j,L,G⟩:=q;obtain⟨J,hm,B⟩:=O σ3 j G;exact⟨J,hm,σ3,j,L,B⟩
  |brk=>exact q
  |ret v=>exact q
 |false =>
  rw[if_neg bz];exact ir ⟨σ1,H2,U,z⟩
end
structure It where
 go:Nat->Hp->Prop
 yld:Nat->Hp->V->Hp->Prop
 stop:Nat->Hp->Prop
def FpOk(X:Cx)(pins:List (Addr×Obj))(H:Hp)(b:Addr):Prop :=
 H b=none/\b≠X.env.locals/\b∉X.fs/\(b∈X.ex\/X.s₀.heap.objs.size<=b)/\(∀x c,X.env.cells.lookup x=some c->c≠b)/\∀p∈X.pn++pins,p.1≠b
theorem Inv.fpOk{X:Cx}{pins:List (Addr×Obj)}{σ:St}{H H':Hp}{s:aj}{b:Addr}(I:Inv X pins σ H s)(hb:s.heap.objs.size<=b)(hn:H' b=none):FpOk X pins H' b:=by
 refine⟨hn,Nat.ne_of_gt (Nat.lt_of_lt_of_le I.lt hb),I.nofs hb,.inr (Nat.le_trans I.sz hb),λx c e z=>?_,λp j z=>?_⟩
 ·obtain⟨v,q⟩:=I.cell x c e;exact absurd (Nat.lt_of_lt_of_le q.lt (by rw[z];exact hb)) (Nat.lt_irrefl _)
 ·exact absurd (Nat.lt_of_lt_of_le (aA (I.pin p j).1) (by rw[z];exact hb)) (Nat.lt_irrefl _)
structure Turn(P:au)(w:aN)(K:ay)(tg:Expr)(J:It)(fp:List Addr)(it:Addr)(tn:Nat->bu->Prop):Prop where
 mem:it∈fp
 obj:∀i h,tn i h->∀b∈fp,∃o,h.get? b=some o/\∀v,o.data≠.cell v
 keep:∀i h h',tn i h->(∀b∈fp,∀o,h.get? b=some o->h'.get? b=some o)->tn i h'
 item:∀(X:Cx),X.prog=P->X.w=w->X.K=K->X.calm=true->∀(i:Nat) (pins:List (Addr×Obj)) (s:aj) (σ:St) (H:Hp) (E:ae->aj->Prop),Inv X pins σ H s->(∀b∈fp,FpOk X pins H b)->tn i s.heap->J.go i H ->
  aE (aF P w) X.A (eV (.ref it)) (λr s1=>∃ u,r=some u /\
   aE (aF P w) X.A (e8 tg (.ref it) u) (λ_ s2=>∃x H',Inv X pins σ H' s2/\RelV x u/\J.yld i H x H'/\tn (i+1) s2.heap/\∀b∈fp,H' b=none) E s1) E s
 done:∀(X:Cx),X.prog=P->X.w=w->X.K=K->X.calm=true->∀(i:Nat) (pins:List (Addr×Obj)) (s:aj) (σ:St) (H:Hp) (E:ae->aj->Prop),Inv X pins σ H s->(∀b∈fp,FpOk X pins H b)->tn i s.heap->J.stop i H ->
  aE (aF P w) X.A (eV (.ref it)) (λr s1=>r=none/\Inv X pins σ H s1) E s
 self:∀(A:bj) (i:Nat) (s:aj) (Q:ae->aj->Prop) (E:ae->aj->Prop),tn i s.heap->Q (.ref it) s->aE (aF P w) A (jo (.ref it)) Q E s
abbrev TI:=St->Hp->(It->Hp->Prop)->Prop
def PIE(X:Cx)(pins:List (Addr×Obj))(σ:St)(tg:Expr)(R:It->Hp->Prop)(itv:ae)(s2:aj):Prop :=
 ∃(it:Addr) (fp:List Addr) (tn:Nat->bu->Prop) (J:It) (H':Hp),itv=.ref it/\Inv X pins σ H' s2/\Turn X.prog X.w X.K tg J fp it tn/\tn 0 s2.heap/\(∀b∈fp,FpOk X pins H' b)/\R J H'
def PI(X:Cx)(tg iter:Expr)(wi:TI):Prop :=
 ∀(pins:List (Addr×Obj)) (s:aj) (σ:St) (H:Hp) (R:It->Hp->Prop),Inv X pins σ H s->wi σ H R ->
  aE (aF X.prog X.w) X.A (eval iter X.env) (λv s1=>aE (aF X.prog X.w) X.A (jo v) (PIE X pins σ tg R) X.xe s1) X.xe s
theorem dJx{M:Model}{A:bj}{E:ae->aj->Prop}{s:aj}{tg:Expr}{it:Addr}{u:ae}{o:Obj}{n:String}{vs:Array ae}{Q:Unit->aj->Prop}(ho:s.heap.get? it=some o)(hc:o.cls=.type n)(hd:o.data=.fields vs)
    (hn:["enumerate", "zip", "dict_itemiterator", "dict_reverseitemiterator", "odict_iterator", "itertools.zip_longest", "itertools.pairwise"].contains n=false) (hQ:Q () s):aE M A (e8 tg (.ref it) u) Q E s:=by
  unfold e8;cases tg <;> first
    |exact ad hQ
    | (cases u <;> first
        |exact ad hQ
        | (refine aa (wpAny_load ho ?_)
           rw [hc,hd];show aE M A (if (["enumerate", "zip", "dict_itemiterator", "dict_reverseitemiterator", "odict_iterator", "itertools.zip_longest", "itertools.pairwise"].contains n&&vs[0]?==some (fI _))=true then _ else _) Q E s
           rw [if_neg (by intro h; rw [hn,Bool.false_and] at h; cases h)]
           exact ad hQ))
def Itl(K:ay)(a:Addr):It :=
 ⟨λi H=>∃xs x,SqL K H a xs/\xs[i]?=some x,λi H x H'=>H'=H/\∀xs,SqL K H a xs->xs[i]?=some x,λi H=>∃xs,SqL K H a xs/\xs.length<=i⟩
def Itt(K:ay)(a:Addr):It :=
 ⟨λi H=>∃xs x,SqT K H a xs/\xs[i]?=some x,λi H x H'=>H'=H/\∀xs,SqT K H a xs->xs[i]?=some x,λi H=>∃xs,SqT K H a xs/\xs.length<=i⟩
def Itr(lo:Int)(n:Nat):It:=⟨λi _=>i<n,λi H x H'=>H'=H/\x=.int (lo+i),λi _=>n<=i⟩
theorem cX8{P:au}{w:aN}{K:ay}{tg:Expr}(a it:Addr):Turn P w K tg (Itl K a) [it] it (λi h=>h.IsListIter it a i) where
 mem:=by simp
 obj:=λi h st b j=>by
  have e:b=it:=by simpa using j
  subst e;obtain⟨o,e,c,d⟩:=st;exact⟨o,e,λv z=>by rw[d] at z;cases z⟩
 keep:=λi h h' st k=>st.at λo e=>k it (by simp) o e
 item:=by
  intro X O hw U Z i pins s σ H E I hf st L;subst O hw U;obtain⟨xs,x,B,J⟩:=L;obtain⟨G,D,p,hz⟩:=I.list B;obtain⟨u,hu,ru⟩:=D.get J;obtain⟨f0,f1,f2,Y,f4,f5⟩:=hf it (by simp)
  refine gG st p.isList (x:=u) (by simpa using hu) λh' q sb=>?_
  have I1:Inv X pins σ H {s with heap:=h'}:=I.turned (t':=s.toks) (λb o j e=>(sb.2 b j).trans e) f0 f1 Y f4 f5
  obtain⟨o,e,c,d⟩:=id q;exact⟨u,rfl,dJx (s:={s with heap:=h'}) e c d (by decide) ⟨x,H,I1,ru,⟨rfl,λys hy=>by rw[I.list_inj hy B];exact J⟩,q,λb j=>(hf b j).1⟩⟩
 done:=by
  intro X O hw U Z i pins s σ H E I hf st L;subst O hw U;obtain⟨xs,B,J⟩:=L;obtain⟨G,D,p,hz⟩:=I.list B;obtain⟨f0,f1,f2,Y,f4,f5⟩:=hf it (by simp)
  have hl:=D.length;exact gZ (I.ok.hd Z) st p.isList (by simp;omega) λh' eb=>⟨rfl,I.turned (t':=s.toks) (λb o j e=>eb b o j e) f0 f1 Y f4 f5⟩
 self:=λ_ _ _ _ _ st h=>wpAny_pyIter_listiter st h
theorem cZf{P:au}{w:aN}{K:ay}{tg:Expr}(a it:Addr):Turn P w K tg (Itt K a) [it] it (λi h=>h.IsTupleIter it a i) where
 mem:=by simp
 obj:=λi h st b q=>by
  have e:b=it:=by simpa using q
  subst e;obtain⟨o,e,c,d⟩:=st;exact⟨o,e,λv z=>by rw[d] at z;cases z⟩
 keep:=λi h h' st k=>st.at λo e=>k it (by simp) o e
 item:=by
  intro X O hw U Z i pins s σ H E I hf st L;subst O hw U;obtain⟨xs,x,D,J⟩:=L;obtain⟨j,G,p,hz⟩:=I.tuple D;obtain⟨u,hu,ru⟩:=G.get J;obtain⟨f0,f1,f2,Y,f4,f5⟩:=hf it (by simp)
  refine wpAny_pyNext_tuple_item st (show s.heap.IsTuple a j.toArray from p) (x:=u) (by simpa using hu) λh' B sb=>?_
  have I1:Inv X pins σ H {s with heap:=h'}:=I.turned (t':=s.toks) (λb o q e=>(sb.2 b q).trans e) f0 f1 Y f4 f5
  obtain⟨o,e,c,d⟩:=id B;exact⟨u,rfl,dJx (s:={s with heap:=h'}) e c d (by decide) ⟨x,H,I1,ru,⟨rfl,λys hy=>by rw[I.tuple_inj hy D];exact J⟩,B,λb q=>(hf b q).1⟩⟩
 done:=by
  intro X O hw U Z i pins s σ H E I hf st L;subst O hw U;obtain⟨xs,D,J⟩:=L;obtain⟨j,G,p,hz⟩:=I.tuple D;obtain⟨f0,f1,f2,Y,f4,f5⟩:=hf it (by simp)
  have hl:=G.length;exact wpAny_pyNext_tuple_end (I.ok.hd Z) st (show s.heap.IsTuple a j.toArray from p) (by simp;omega) λh' eb=>⟨rfl,I.turned (t':=s.toks) (λb o q e=>eb b o q e) f0 f1 Y f4 f5⟩
 self:=λ_ _ _ _ _ st h=>wpAny_pyIter_tupleiter st h
theorem cZg{P:au}{w:aN}{K:ay}{tg:Expr}(it:Addr)(lo:Int)(n:Nat):Turn P w K tg (Itr lo n) [it] it (λi h=>IsRangeIter h it (lo+(i:Nat)*1) ((n:Int)-(i:Nat)) 1) where
 mem:=by simp
 obj:=λi h st b j=>by
  have e:b=it:=by simpa using j
  subst e;exact⟨_,st,λv z=>by
   have z':Data.fields _=Data.cell v:=z;cases z'⟩
 keep:=λi h h' st k=>k it (by simp) _ st
 item:=by
  intro X G hw J D i pins s σ H E I hf st B;subst G hw J;obtain⟨f0,f1,f2,L,f4,f5⟩:=hf it (by simp)
  have W:=Walks.range (prog:=X.prog) (w:=X.w) (I.ok.hd D) it lo 1 n;refine W.item i s _ _ B st λv h' O Y q U=>?_;obtain⟨t,rfl⟩:=Y;have I1:Inv X pins σ H {s with heap:=h',toks:=O}:=I.turned (λb o j e=>U b o (by simpa using j) e) f0 f1 L f4 f5
  refine⟨_,rfl,dJx (s:={s with heap:=h',toks:=O}) (n:="range_iterator") q rfl rfl (by decide) ⟨.int (lo+i),H,I1,⟨t,?_⟩,⟨rfl,rfl⟩,q,λb j=>(hf b j).1⟩⟩
  rw[Int.mul_one]
 done:=by
  intro X G hw J D i pins s σ H E I hf st B;subst G hw J;obtain⟨f0,f1,f2,L,f4,f5⟩:=hf it (by simp)
  exact wpAny_pyNext_range_end (I.ok.hd D) st (by have:n<=i:=B;omega) λh' Z=>⟨rfl,I.turned (t':=s.toks) (λb o j e=>Z b o j e) f0 f1 L f4 f5⟩
 self:=λ_ _ _ _ _ st h=>wpAny_pyIter_rangeiter st h
section
variable{X:Cx}{tg:Expr}
theorem cQ7{pins:List (Addr×Obj)}{σ:St}{H:Hp}{s:aj}{R:It->Hp->Prop}{E:ae->aj->Prop}{lo hi:Int}{t u v:Tok}{tk:Nat}(I:Inv X pins σ H s)(h1:-(2^62)<=lo)(h2:lo<2^62)(h3:-(2^62)<=hi)(h4:hi<2^62)
  (q:R (Itr lo (hi-lo).toNat) H):aE (aF X.prog X.w) X.A (jo (.ref s.heap.objs.size)) (PIE X pins σ tg R) E {s with heap:=s.heap.push {cls:=.type "range",data:=.fields #[.int lo t,.int hi u,.int 1 v]},toks:=tk}:=by
 refine wpAny_pyIter_range (IsRange.new ..) (small_one h1 h2 h3 h4) ?_;have j:Inv X pins σ H {s with heap:=s.heap.push {cls:=.type "range",data:=.fields #[.int lo t,.int hi u,.int 1 v]},toks:=tk}:=I.kept λb o e=>ag _ e
 refine⟨(s.heap.push { cls:=.type "range",data:=.fields #[.int lo t,.int hi u,.int 1 v] }).objs.size,[(s.heap.push { cls:=.type "range",data:=.fields #[.int lo t,.int hi u,.int 1 v] }).objs.size],_,_,H,rfl,
  j.kept (t':=tk) λb o e=>ag _ e,cZg _ lo (hi-lo).toNat,?_,λb z=>?_,q⟩
 ·have D:lo+((0:Nat):Int)*1=lo:=by simp
  have B:(((hi-lo).toNat:Nat):Int)-((0:Nat):Int)=cv.Range.rangeSize lo hi 1:=by rw[rangeSize_one];split <;> omega
  show IsRangeIter _ _ (lo+((0:Nat):Int)*1) ((((hi-lo).toNat:Nat):Int)-((0:Nat):Int)) 1;rw[D,B];exact ar _ rfl
 ·have e:b=(s.heap.push {cls:=.type "range",data:=.fields #[.int lo t,.int hi u,.int 1 v]}).objs.size:=by simpa using z
  subst e;exact j.fpOk (Nat.le_refl _) (j.hok.fresh (Nat.le_refl _))
def fXe(ta:TA):TI:=fun σ H R=>ta σ H λvs H1=>∃j:Int,vs=[.int j]/\-(2^62)<=j/\j<2^62/\R (Itr 0 j.toNat) H1
def fXf(ta:TA):TI:=fun σ H R=>ta σ H λvs H1=>∃i j:Int,vs=[.int i,.int j]/\(-(2^62)<=i/\i<2^62/\-(2^62)<=j/\j<2^62)/\R (Itr i (j-i).toNat) H1
theorem cX9{a:Expr}{ta:TA}{p pos:Pos}(hg:Gl X "range")(hm:X.mg "range"=none)(ha:PA X [a] ta)(hs:aC [a] X.env=[(false,eval a X.env)]:=by rfl):PI X tg (.Call (.Name "range" p) [a] [] pos) (fXe ta):=by
 intro pins s σ H R I h;refine Call_ (ld_blt I hg hm boot_range (dD (thn (ha pos pins s σ H _ I h) λus s1 ⟨vs,H1,D,r1,z⟩=>?_) hs rfl));obtain⟨j,e,z,B,q⟩:=z;subst e;cases r1 with
 |cons r rr =>
  cases rr;obtain⟨t,rfl⟩:=r;exact call_range_1 (cQ7 D (by omega) (by omega) z B (by simpa using q))
theorem cXa{a b:Expr}{ta:TA}{p pos:Pos}(hg:Gl X "range")(hm:X.mg "range"=none)(ha:PA X [a,b] ta)(hs:aC [a,b] X.env=[(false,eval a X.env),(false,eval b X.env)]:=by rfl)(hs2:aC [b] X.env=[(false,eval b X.env)]:=by rfl) :
  PI X tg (.Call (.Name "range" p) [a,b] [] pos) (fXf ta):=by
 intro pins s σ H R I h;refine Call_ (ld_blt I hg hm boot_range (dD (thn (ha pos pins s σ H _ I h) λus s1 ⟨vs,H1,L,r1,z⟩=>?_) (by rw[hs,hs2]) (by rw[hs2];rfl)))
 obtain⟨i,j,e,⟨z,J,G,D⟩,q⟩:=z;subst e;cases r1 with
 |cons r rr =>
  cases rr with
  |cons B rr =>
   cases rr;obtain⟨t,rfl⟩:=r;obtain⟨O,rfl⟩:=B;exact call_range_2 (cQ7 L z J G D q)
def tFor(wi:TI)(g:TG)(tb:TS):TS:=λD σ H=>wi σ H λJ H1=>∃W:Nat->Nat->St->Hp->Prop,(∃m,W 0 m σ H1)/\∀i m σ H,W i m σ H ->
 (J.stop i H/\D.nx σ H)\/(J.go i H/\∃N:St->Hp->Prop,(∀σ' H',N σ' H'->∃m',m'<m/\W (i+1) m' σ' H')/\∀x H',J.yld i H x H'->g x σ H' fun σ2 H2=>tb {D with nx:=N,ct:=N,bk:=D.nx} σ2 H2)
def bX8(fp:List Addr)(h:bu):List (Addr×Obj):=fp.filterMap λb=>(h.get? b).map λo=>(b,o)
theorem aX5{fp:List Addr}{h:bu}{b:Addr}{o:Obj}(hb:b∈fp)(e:h.get? b=some o):(b,o)∈bX8 fp h:=fA.mpr ⟨b,hb,by rw[e];rfl⟩
theorem cXb{fp:List Addr}{h:bu}{p:Addr×Obj}(hp:p∈bX8 fp h):p.1∈fp/\h.get? p.1=some p.2:=by
 obtain⟨b,j,e⟩:=fA.mp hp;cases q:h.get? b with
 |none=>rw[q] at e;cases e
 |some o =>
  rw[q] at e;have z:(b,o)=p:=aO e;subst z;exact⟨j,q⟩
theorem Inv.pinned{pins:List (Addr×Obj)}{σ:St}{H:Hp}{s:aj}{fp:List Addr}(I:Inv X pins σ H s)(hf:∀b∈fp,FpOk X pins H b)(ho:∀b∈fp,∃o,s.heap.get? b=some o/\∀v,o.data≠.cell v):Inv X (pins++bX8 fp s.heap) σ H s :=
 I.pins_of λp q=>(aS.mp q).elim (λz=>I.pin p (a7 _ z)) λz=>by
  obtain⟨j,e⟩:=cXb z;obtain⟨f0,f1,f2,_⟩:=hf p.1 j;obtain⟨o,e',d⟩:=ho p.1 j;rw[e] at e';cases e';exact⟨e,f0,f1,f2,d⟩
theorem Inv.unpinned{pins pl:List (Addr×Obj)}{σ:St}{H:Hp}{s:aj}(I:Inv X (pins++pl) σ H s):Inv X pins σ H s:=I.pins_of λp j=>I.pin p (a7 _ (be _ j))
theorem eJ7{iter:Expr}{body:List Stmt}{wi:TI}{g:TG}{tb:TS}{pos:Pos}(hp:PassesOwn (aF X.prog X.w) X.A X.env X.xe)(hc:X.calm=true)(hi:PI X tg iter wi)(hg:PG X tg g)(hb:PSs X body tb)
  (hs:∀x,cq iter X.env x=pure x:=by intro _;rfl):PS X (.For tg iter body [] pos) (tFor wi g tb):=by
 intro pins s σ H D I h;refine wpAny_For (thn (hi pins s σ H _ I h) λv s1 h1=>thn h1 λitv s2 h2=>?_) hs;obtain⟨it,fp,tn,J,H2,e,I2,T,Z,f2,W,⟨m0,w0⟩,turn⟩:=h2;subst e;have j:∀{H':Hp},(∀b∈fp,H' b=none)->∀b∈fp,FpOk X pins H' b:=λhn b hb=>⟨hn b hb,(f2 b hb).2⟩;refine codeAny_forLoop_any (λn s'=>∃i σ' H',Inv X pins σ' H' s'/\tn i s'.heap/\(∀b∈fp,H' b=none)/\W i n σ' H') ?_ m0 ⟨0,σ,H2,I2,Z,λb hb=>(f2 b hb).1,w0⟩;rintro n s3 ⟨i,σ3,Y,I3,L,U,w3⟩;rcases turn i n σ3 Y w3 with⟨stop,qn⟩|⟨go,N,hN,step⟩
 ·refine eZ hp (thn (T.done X rfl rfl rfl hc i pins s3 σ3 Y X.xe I3 (j U) L stop) λr s4 ⟨hr,I4⟩=>?_);subst hr;exact ir ⟨σ3,Y,I4,qn⟩
 ·refine eZ hp (thn (T.item X rfl rfl rfl hc i pins s3 σ3 Y X.xe I3 (j U) L go) λr s4 ⟨u,hr,h4⟩=>?_);subst hr;refine eZ hp (thn h4 λ_ s5 ⟨x,H5,I5,r5,y5,G,fr5⟩=>?_);have I5':=I5.pinned (j fr5) (T.obj _ _ G);refine eZ hp (thn (hg _ s5 σ3 H5 x u _ I5' r5 (step x H5 y5)) λ_ s6 ⟨σ6,H6,I6,q6⟩=>?_);refine eZ hp (thn (hb _ s6 σ6 H6 _ I6 q6) λf s7 B=>?_);have again:∀{σ7:St}{z:Hp},Inv X (pins++bX8 fp s5.heap) σ7 z s7->N σ7 z->∃m,m<n/\∃i σ' H',Inv X pins σ' H' s7/\tn i s7.heap/\(∀b∈fp,H' b=none)/\W i m σ' H':=λ{σ7 z} q O=>by
   obtain⟨m',hm,w7⟩:=hN σ7 z O;refine⟨m',hm,i+1,σ7,z,q.unpinned,T.keep _ _ _ G λb hb o e=>(q.pin (b,o) (a7 _ (a7 _ (aX5 hb e)))).1,λb hb=>?_,w7⟩;obtain⟨o,e,d⟩:=T.obj _ _ G b hb;exact(q.pin (b,o) (a7 _ (a7 _ (aX5 hb e)))).2.1
  cases f with
  |next=>obtain⟨σ7,z,q,O⟩:=B;exact again q O
  |cont=>obtain⟨σ7,z,q,O⟩:=B;exact again q O
  |brk=>obtain⟨σ7,z,q,B⟩:=B;exact⟨σ7,z,q.unpinned,B⟩
  |ret v=>obtain⟨x7,σ7,z,q,r7,B⟩:=B;exact⟨x7,σ7,z,q.unpinned,r7,B⟩
end
abbrev R2:=V->V->Hp->VK->Prop
def OpR(X:Cx)(f:ae->ae->Sem ae)(r:R2):Prop :=
 ∀(pins:List (Addr×Obj)) (s:aj) (σ:St) (H:Hp) (x y:V) (v u:ae) (Q:VK),Inv X pins σ H s->RelV x v->RelV y u->r x y H Q ->
  aE (aF X.prog X.w) X.A (f v u) (EP X pins σ Q) X.xe s
def UnR(X:Cx)(f:ae->Sem ae)(r:V->Hp->VK->Prop):Prop :=
 ∀(pins:List (Addr×Obj)) (s:aj) (σ:St) (H:Hp) (x:V) (v:ae) (Q:VK),Inv X pins σ H s->RelV x v->r x H Q ->
  aE (aF X.prog X.w) X.A (f v) (EP X pins σ Q) X.xe s
def CallR(X:Cx)(f:ae)(r:List V->Hp->VK->Prop):Prop :=
 ∀(pins:List (Addr×Obj)) (s:aj) (σ:St) (H:Hp) (xs:List V) (us:List ae) (Q:VK),Inv X pins σ H s->Vals xs us->r xs H Q ->
  aE (aF X.prog X.w) X.A (call f us) (EP X pins σ Q) X.xe s
def TruR(X:Cx)(r:V->Hp->(Bool->Hp->Prop)->Prop):Prop :=
 ∀(pins:List (Addr×Obj)) (s:aj) (σ:St) (H:Hp) (x:V) (v:ae) (Q:Bool->Hp->Prop),Inv X pins σ H s->RelV x v->r x H Q ->
  aE (aF X.prog X.w) X.A (truthy v) (TP X pins σ Q) X.xe s
def tOp(r:R2)(ta tb:TE):TE:=fun σ H Q=>ta σ H λx H1=>tb σ H1 λy H2=>r x y H2 Q
def tUn(r:V->Hp->VK->Prop)(ta:TE):TE:=fun σ H Q=>ta σ H λx H1=>r x H1 Q
def rI(C:Int->Int->Prop)(g:Int->Int->V):R2:=λx y H Q=>∃i j,x=.int i/\y=.int j/\C i j/\Q (g i j) H
def rI0(g:Int->Int->V):R2:=λx y H Q=>∃i j,x=.int i/\y=.int j/\Q (g i j) H
def rU(g:Int->V):V->Hp->VK->Prop:=λx H Q=>∃i,x=.int i/\Q (g i) H
section
variable{X:Cx}{a b c:Expr}{ta tb tc:TE}{pos:Pos}
theorem binT(ha:PE X a ta)(hb:PE X b tb){pins:List (Addr×Obj)}{s:aj}{σ:St}{H:Hp}{R:V->V->Hp->Prop}(I:Inv X pins σ H s)
  (h:ta σ H λx H1=>tb σ H1 λy H2=>R x y H2) {Q:ae->aj->Prop}{f:ae->ae->Sem ae}
  (hf:∀v u s2 x y H2,Inv X pins σ H2 s2->RelV x v->RelV y u->R x y H2->aE (aF X.prog X.w) X.A (f v u) Q X.xe s2) :
  aE (aF X.prog X.w) X.A (eval a X.env) (λv s₁=>aE (aF X.prog X.w) X.A (eval b X.env) (λu s₂=>aE (aF X.prog X.w) X.A (f v u) Q X.xe s₂) X.xe s₁) X.xe s:=by
 refine thn (ha pins s σ H _ I h) λv s1 ⟨x,H1,G,q,B⟩=>?_;refine thn (hb pins s1 σ H1 _ G B) λu s2 ⟨y,H2,D,j,z⟩=>?_;exact hf v u s2 x y H2 D q j z
theorem fXg{op:Operator}{r:R2}(ho:OpR X (eD op) r)(ha:PE X a ta)(hb:PE X b tb):PE X (.BinOp a op b pos) (tOp r ta tb):=by
 intro pins s σ H Q I h;exact wpAny_BinOp (binT ha hb I h λv u s2 x y H2 B z j q=>ho pins s2 σ H2 x y v u Q B z j q)
theorem fXh{op:UnaryOp}{r:V->Hp->VK->Prop}(ho:UnR X (unaryOp op) r)(ha:PE X a ta):PE X (.UnaryOp op a pos) (tUn r ta):=by
 intro pins s σ H Q I h;exact UnaryOp_ (thn (ha pins s σ H _ I h) λv s1 ⟨x,H1,z,j,q⟩=>ho pins s1 σ H1 x v Q z j q)
theorem opI{f:ae->ae->Sem ae}{C:Int->Int->Prop}{g:Int->Int->Int}
  (rule:∀(i j:Int) (t u:Tok) (s:aj) (Q:ae->aj->Prop) (E:ae->aj->Prop),C i j->Q (.int (g i j) s.toks) {s with toks:=s.toks+1}->aE (aF X.prog X.w) X.A (f (.int i t) (.int j u)) Q E s) :
  OpR X f (rI C λi j=>.int (g i j)):=by
 intro pins s σ H x y v u Q I D B h;obtain⟨i,j,rfl,rfl,G,q⟩:=h;obtain⟨t,rfl⟩:=D;obtain⟨z,rfl⟩:=B;exact rule i j t z s _ _ G ⟨.int (g i j),H,I.tok _,⟨_,rfl⟩,q⟩
theorem opI0{f:ae->ae->Sem ae}{g:Int->Int->Int}
  (rule:∀(i j:Int) (t u:Tok) (s:aj) (Q:ae->aj->Prop) (E:ae->aj->Prop),Q (.int (g i j) s.toks) {s with toks:=s.toks+1}->aE (aF X.prog X.w) X.A (f (.int i t) (.int j u)) Q E s) :
  OpR X f (rI0 λi j=>.int (g i j)):=by
 intro pins s σ H x y v u Q I D B h;obtain⟨i,j,rfl,rfl,q⟩:=h;obtain⟨t,rfl⟩:=D;obtain⟨z,rfl⟩:=B;exact rule i j t z s _ _ ⟨.int (g i j),H,I.tok _,⟨_,rfl⟩,q⟩
theorem opB0{f:ae->ae->Sem ae}{g:Int->Int->Bool}
  (rule:∀(i j:Int) (t u:Tok) (s:aj) (Q:ae->aj->Prop) (E:ae->aj->Prop),Q (.bool (g i j)) s->aE (aF X.prog X.w) X.A (f (.int i t) (.int j u)) Q E s) :
  OpR X f (rI0 λi j=>.bl (g i j)):=by
 intro pins s σ H x y v u Q I D B h;obtain⟨i,j,rfl,rfl,q⟩:=h;obtain⟨t,rfl⟩:=D;obtain⟨z,rfl⟩:=B;exact rule i j t z s _ _ ⟨.bl (g i j),H,I,rfl,q⟩
def CDiv(i j:Int):Prop:=0<j/\j<1073741824
def CPow(i j:Int):Prop:=0<=j/\j<=1000000/\i.natAbs<2^64
def CMul(i j:Int):Prop:=(-(2^64)<i/\i<2^64)\/(-(2^64)<j/\j<2^64)
theorem CMul.ok{i j:Int}(h:CMul i j):IntMulOk i j:=by
 rcases h with⟨h1,h2⟩|⟨h1,h2⟩
 ·exact .of_left (intBits_le_64 h1 h2)
 ·exact .of_right (intBits_le_64 h1 h2)
theorem op_add:OpR X (eD .Add) (rI0 λi j=>.int (i+j)):=opI0 λ_ _ _ _ _ _ _ q=>add_int q
theorem eJ8:OpR X (eD .Sub) (rI0 λi j=>.int (i-j)):=opI0 λ_ _ _ _ _ _ _ q=>sub_int q
theorem eJ9:OpR X (eD .Mult) (rI CMul λi j=>.int (i*j)):=opI λ_ _ _ _ _ _ _ z q=>mul_int q z.ok
theorem dJy:OpR X (eD .FloorDiv) (rI CDiv λi j=>.int (i/j)):=opI λi j _ _ _ _ _ z q=>by
 have h1:(0:Int)<j:=z.1;have h2:j<1073741824:=z.2;exact floordiv_int (by omega) (by rw[Int.fdiv_eq_ediv_of_nonneg i (by omega)];exact q) (.inl (PyProof.noPylong_small (by omega)))
theorem eJa:OpR X (eD .Mod) (rI (λ_ j=>0<j) λi j=>.int (i%j)):=opI λi j _ _ _ _ _ z q=>by
 have h1:(0:Int)<j:=z;exact mod_int' (by omega) (by rw[Int.fmod_eq_emod_of_nonneg i (by omega)];exact q)
theorem eJb:OpR X (eD .Pow) (rI CPow λi j=>.int (i^j.toNat)):=opI λ_ _ _ _ _ _ _ z q=>pow_int_small z.1 z.2.1 z.2.2 q
theorem unI{f:ae->Sem ae}{g:Int->Int}
  (rule:∀(i:Int) (t:Tok) (s:aj) (Q:ae->aj->Prop) (E:ae->aj->Prop),Q (.int (g i) s.toks) {s with toks:=s.toks+1}->aE (aF X.prog X.w) X.A (f (.int i t)) Q E s) :
  UnR X f (rU λi=>.int (g i)):=by
 intro pins s σ H x v Q I j h;obtain⟨i,rfl,q⟩:=h;obtain⟨t,rfl⟩:=j;exact rule i t s _ _ ⟨.int (g i),H,I.tok _,⟨_,rfl⟩,q⟩
theorem eJc:UnR X (unaryOp .USub) (rU λi=>.int (-i)):=unI λ_ _ _ _ _ q=>neg_int q
end
section
variable{X:Cx}{a b c:Expr}{ta tb tc:TE}{pos:Pos}
theorem eJd{pins:List (Addr×Obj)}{σ:St}{H:Hp}{s:aj}{Q:VK}{k k':Bool}(I:Inv X pins σ H s)(q:Q (.bl k) H)(e:k=k'):EP X pins σ Q (.bool k') s:=by
 subst e;exact⟨.bl k,H,I,rfl,q⟩
theorem op_lt:OpR X (cy .Lt) (rI0 λi j=>.bl (decide (i<j))):=opB0 λ_ _ _ _ _ _ _ q=>lt_int q
theorem fXi:OpR X (cy .LtE) (rI0 λi j=>.bl (decide (i<=j))):=opB0 λ_ _ _ _ _ _ _ q=>le_int q
theorem fXj:OpR X (cy .Gt) (rI0 λi j=>.bl (decide (j<i))):=opB0 λ_ _ _ _ _ _ _ q=>gt_int q
theorem fXk:OpR X (cy .GtE) (rI0 λi j=>.bl (decide (j<=i))):=opB0 λ_ _ _ _ _ _ _ q=>ge_int q
theorem op_lt_str:OpR X (cy .Lt) (λx y H Q=>∃i j,x=.str i/\y=.str j/\Q (.bl (decide (i.cps.toList<j.cps.toList))) H):=by
 intro pins s σ H x y v u Q I B z h;obtain⟨i,j,rfl,rfl,q⟩:=h;obtain⟨t,rfl⟩:=B;obtain⟨D,rfl⟩:=z;exact lt_str (eJd I q rfl)
theorem OpR.or{f:ae->ae->Sem ae}{r r':R2}(h:OpR X f r)(h':OpR X f r'):OpR X f (λx y H Q=>r x y H Q\/r' x y H Q):=by
 intro pins s σ H x y v u Q I z j q;rcases q with q|q
 ·exact h pins s σ H x y v u Q I z j q
 ·exact h' pins s σ H x y v u Q I z j q
theorem nomark(b:Expr){op:CmpOp}(h:op≠.In:=by decide)(h2:op≠.NotIn:=by decide):eL op b=false:=by
 have q:(op==CmpOp.In)=false:=by cases op <;> first|rfl|exact absurd rfl h
 have j:(op==CmpOp.NotIn)=false:=by cases op <;> first|rfl|exact absurd rfl h2
 cases b <;> simp[eL,q,j]
theorem dJz{op:CmpOp}{r:R2}(ho:OpR X (cy op) r)(ha:PE X a ta)(hb:PE X b tb)(hm:eL op b=false):PE X (.Compare a [op] [b] pos) (tOp r ta tb):=by
 intro pins s σ H Q I h;exact wpAny_Compare1 (binT ha hb I h λv u s2 x y H2 B z j q=>ho pins s2 σ H2 x y v u Q B z j q) hm
def eQ0(t:TE):TT:=fun σ H Q=>t σ H λx H'=>∃k,x=.bl k/\Q k H'
theorem eQ1{op:CmpOp}{r:R2}(ho:OpR X (cy op) r)(ha:PE X a ta)(hb:PE X b tb)(hm:eL op b=false):PT X (.Compare a [op] [b] pos) (eQ0 (tOp r ta tb)):=by
 intro pins s σ H Q I h;refine wpAny_isTrue_Compare1 (thn (ha pins s σ H _ I h) λv s1 ⟨x,H1,O,q,G⟩=>thn (hb pins s1 σ H1 _ O G) λu s2 ⟨y,H2,L,j,D⟩ =>
  thn (ho pins s2 σ H2 x y v u _ L q j D) λc s3 ⟨z,U,J,r3,k,e,B⟩=>?_) hm
 subst e;cases r3;exact dF ⟨U,J,B⟩
def dXl(r r':R2)(ta tb tc:TE):TE:=fun σ H Q=>ta σ H λx H1=>tb σ H1 λy H2=>r x y H2 λz H3=>∃k,z=.bl k /\
 (if k=true then tc σ H3 λw' H4=>r' y w' H4 Q else Q (.bl false) H3)
theorem dQr{op op':CmpOp}{r r':R2}(ho:OpR X (cy op) r)(ho':OpR X (cy op') r')(ha:PE X a ta)(hb:PE X b tb)(hc:PE X c tc)
  (hm:lastMarks [op,op'] [b,c]=false:=by with_unfolding_all rfl):PT X (.Compare a [op,op'] [b,c] pos) (eQ0 (dXl r r' ta tb tc)):=by
 intro pins s σ H Q I h;refine isTrue_chain (thn (ha pins s σ H _ I h) λv s1 ⟨x,H1,I1,O,q1⟩=>test_link (thn (hb pins s1 σ H1 _ I1 q1) λu s2 ⟨y,H2,I2,j,Z⟩ =>
  thn (ho pins s2 σ H2 x y v u _ I2 O j Z) λd s3 ⟨z,D,B,r3,k,e,q⟩=>?_)) hm
 subst e;cases r3;refine dF ?_;cases k with
 |false =>
  obtain⟨k',e',q'⟩:=q;cases e';exact ite_ff ⟨D,B,q'⟩
 |true =>
  refine ite_tt (test_last (thn (hc pins s3 σ D _ B q) λJ s4 ⟨G,H4,I4,L,Y⟩=>thn (ho' pins s4 σ H4 y G u J _ I4 j L Y) λd' s5 ⟨z2,H5,I5,r5,k2,e2,U⟩=>?_));subst e2;cases r5;exact dF ⟨H5,I5,U⟩
def TruV(K:ay)(x:V)(H:Hp)(k:Bool):Prop :=
 match x with
 |.non=>k=false
 |.bl b=>k=b
 |.int i=>k=(i !=0)
 |.str y=>y.length<=sizeLine/\k=((y.length:Int) !=0)
 |.byt y=>y.size<=sizeLine/\k=((y.size:Int) !=0)
 |.ref p=>(∃xs,SqL K H p xs/\k=!xs.isEmpty)\/(∃xs,SqT K H p xs/\k=!xs.isEmpty)\/∃kvs,H p=some (.dK kvs)/\k=!kvs.isEmpty
 |_=>False
theorem cZh{κ:Type}{kvs:List (κ×V)}{vs:List (κ×ae)}(r:KV kvs vs):(!vs.isEmpty)=!kvs.isEmpty:=by
 cases r <;> rfl
theorem bQs{xs:List V}{its:List ae}(r:Vals xs its):(!its.toArray.isEmpty)=!xs.isEmpty:=by
 cases r <;> simp
theorem aJs:(sizeLine:Nat)<2^63:=by rw[bK];decide
theorem eJe:TruR X (λx H Q=>∃k,TruV X.K x H k/\Q k H):=by
 intro pins s σ H x v Q I rx h;obtain⟨k,e,q⟩:=h;have hl:=aJs;have L:sizeLine=16777216:=bK;cases x with
 |non =>
  cases rx;have j:k=false:=e;subst j;exact truthy_none ⟨H,I,q⟩
 |bl b =>
  cases rx;have j:k=b:=e;subst j;exact dF ⟨H,I,q⟩
 |int i =>
  obtain⟨t,rfl⟩:=rx;have j:k=(i !=0):=e;subst j;exact PySem.P.truthy_int ⟨H,I,q⟩
 |str y =>
  obtain⟨t,rfl⟩:=rx;obtain⟨G,j⟩:y.length<=sizeLine/\k=((y.length:Int) !=0):=e;subst j;exact PySem.P.truthy_str (by omega) ⟨H,I.tok _,q⟩
 |byt y =>
  obtain⟨t,rfl⟩:=rx;obtain⟨G,j⟩:y.size<=sizeLine/\k=((y.size:Int) !=0):=e;subst j;exact PySem.W.truthy_bytes (by omega) ⟨H,I.tok _,q⟩
 |ref p =>
  cases rx;have j:(∃xs,SqL X.K H p xs/\k=!xs.isEmpty)\/(∃xs,SqT X.K H p xs/\k=!xs.isEmpty)\/∃kvs,H p=some (.dK kvs)/\k=!kvs.isEmpty:=e;rcases j with⟨xs,z,j⟩|⟨xs,z,j⟩|⟨kvs,z,j⟩
  ·subst j;obtain⟨B,r,pl,D⟩:=I.list z;have hlen:=r.length;exact wpAny_truthy_list pl.isList (by simp only[aq];omega) ⟨H,I.tok _,by rw[bQs r];exact q⟩
  ·subst j;obtain⟨B,r,pl,D⟩:=I.tuple z;have hlen:=r.length;exact truthy_tuple pl (by simp only[aq];omega) ⟨H,I.tok _,by rw[bQs r];exact q⟩
  ·subst j;obtain⟨D,J,vs,r,m⟩:kvs.length<=sizeLine/\(p==fj)=false/\∃vs,KV kvs vs/\s.heap.DictOf (aJr X.prog X.w) p vs:=I.hok p _ z;have hlen:kvs.length=vs.length:=ca r;exact wpAny_truthy_dict J m (by omega) ⟨H,I.tok _,by rw[cZh r];exact q⟩
 |_=>exact(show False from e).elim
theorem dQs(ha:PE X a ta)(he:∀whole,isTrue a X.env whole=(do let v <- whole;fX a.pos;fW [v] (truthy v))) :
  PT X a (fun σ H Q=>ta σ H λx H'=>∃k,TruV X.K x H' k/\Q k H'):=by
 intro pins s σ H Q I h;exact isTrue_plain (thn (ha pins s σ H _ I h) λv s1 ⟨x,H1,z,j,q⟩=>eJe pins s1 σ H1 x v Q z j q) (he _)
theorem op_add_str:OpR X (eD .Add) (λx y H Q=>∃i j,x=.str i/\y=.str j/\i.length+j.length<=sizeLine/\Q (.str (i++j)) H):=by
 intro pins s σ H x y v u Q I D B h;obtain⟨i,j,rfl,rfl,G,q⟩:=h;obtain⟨t,rfl⟩:=D;obtain⟨z,rfl⟩:=B;exact add_str (λz J=>⟨.str (i++j),H,I.tok _,⟨_,rfl⟩,q⟩) G
theorem aXx{x:V}{us:List ae}(r:Vals [x] us):∃u,us=[u]/\RelV x u:=by
 cases r with
 |cons j r2=>cases r2;exact⟨_,rfl,j⟩
theorem dQt:CallR X (.builtin "abs") (λxs H Q=>∃i,xs=[.int i]/\Q (.int (if i<0 then -i else i)) H):=by
 intro pins s σ H xs us Q I r h;obtain⟨i,rfl,q⟩:=h;obtain⟨u,rfl,t,rfl⟩:=aXx r;exact call_abs_int λu j=>⟨.int (if i<0 then -i else i),H,I.tok _,⟨_,rfl⟩,q⟩
def LenV(K:ay)(x:V)(H:Hp)(n:Nat):Prop :=
 match x with
 |.str y=>y.length<=sizeLine/\n=y.length
 |.byt y=>y.size<=sizeLine/\n=y.size
 |.ref p=>(∃xs,SqL K H p xs/\n=xs.length)\/∃xs,SqT K H p xs/\n=xs.length
 |_=>False
theorem dQu:CallR X (.builtin "len") (λxs H Q=>∃x n,xs=[x]/\LenV X.K x H n/\Q (.int n) H):=by
 intro pins s σ H xs us Q I r h;obtain⟨x,n,rfl,e,q⟩:=h;obtain⟨u,rfl,rx⟩:=aXx r;have hl:=aJs;have L:sizeLine=16777216:=bK;cases x with
 |str y =>
  obtain⟨t,rfl⟩:=rx;obtain⟨J,j⟩:y.length<=sizeLine/\n=y.length:=e;subst j;exact len_str (by omega) ⟨.int _,H,I.tok _,⟨_,rfl⟩,q⟩
 |byt y =>
  obtain⟨t,rfl⟩:=rx;obtain⟨J,j⟩:y.size<=sizeLine/\n=y.size:=e;subst j;exact PySem.W.len_bytes (by omega) ⟨.int _,H,I.tok _,⟨_,rfl⟩,q⟩
 |ref p =>
  cases rx;have j:(∃xs,SqL X.K H p xs/\n=xs.length)\/∃xs,SqT X.K H p xs/\n=xs.length:=e;rcases j with⟨xs,D,j⟩|⟨xs,D,j⟩
  ·subst j;obtain⟨B,z,pl,G⟩:=I.list D;have hlen:=z.length;exact Calls.call_len_list pl.isList (by simp only[aq];omega) ⟨.int xs.length,H,I.tok _,⟨_,by simp only[aq];rw[hlen]⟩,q⟩
  ·subst j;obtain⟨B,z,pl,G⟩:=I.tuple D;have hlen:=z.length;exact len_tuple pl (by simp only[aq];omega) ⟨.int xs.length,H,I.tok _,⟨_,by simp only[aq];rw[hlen]⟩,q⟩
 |_=>exact(show False from e).elim
end
structure Room(k:Nat)(A:bj):Prop where
 hd:A.handled=none
 dp:A.depth+3*k+5<recursionLimit
 un:A.units+16*k+200<cB
theorem Room.mono{j k:Nat}{A:bj}(r:Room k A)(h:j<=k):Room j A:=⟨r.hd,by have:=r.dp;omega,by have:=r.un;omega⟩
theorem Room.deeper{k:Nat}{A:bj}(r:Room (k+1) A)(env:Env):Room k (A.deeper env) :=
 ⟨r.hd,by have:=r.dp;show A.depth+1+3*k+5<_;omega,by have:=r.un;show A.units+3+16*k+200<_;omega⟩
theorem Room.depth{k:Nat}{A:bj}(r:Room k A):A.depth<recursionLimit:=by have:=r.dp;omega
theorem Room.units{k:Nat}{A:bj}(r:Room k A):A.units+64<cB:=by have:=r.un;omega
theorem Room.units0{k:Nat}{A:bj}(r:Room k A):A.units<cB:=by have:=r.un;omega
def tNil:TA:=λ_ H Q=>Q [] H
def fXl(ta:TE)(tr:TA):TA:=fun σ H Q=>ta σ H λx H1=>tr σ H1 λxs H2=>Q (x::xs) H2
section
variable{X:Cx}{e:Expr}{es:List Expr}{te:TE}{t:TA}{pos:Pos}
theorem bX9:PA X [] tNil:=λ_ _ _ _ H Q I h=>jb ⟨[],H,I,.nil,h⟩
theorem aJt(ha:PE X e te)(hr:PA X es t)(hs:aC (e::es) X.env=(false,eval e X.env)::aC es X.env:=by rfl):PA X (e::es) (fXl te t):=by
 intro pos pins s σ H Q I h;rw[hs];show aE _ _ (spliced ((false,eval e X.env)::cO pos (aC es X.env))) _ _ s;refine gv (thn (ha pins s σ H _ I h) λu s1 ⟨x,H1,G,q,B⟩=>?_);exact thn (hr pos pins s1 σ H1 _ G B) λus s2 ⟨xs,H2,D,j,z⟩=>⟨x::xs,H2,D,.cons q j,z⟩
def tTup(t:TA):TE:=fun σ H Q=>t σ H λxs H1=>xs.length<=sizeLine/\∀p,H1 p=none->Q (.ref p) (upd H1 p (.tup xs))
def tLst(t:TA):TE:=fun σ H Q=>t σ H λxs H1=>xs.length<=sizeLine/\∀p,H1 p=none->Q (.ref p) (upd H1 p (.lst xs))
theorem eJf{x1}(h:PA X es t):PE X (.Tuple es x1 pos) (tTup t):=by
 intro pins s σ H Q I B;refine wpAny_Tuple_spliced (thn (h pos pins s σ H _ I B) λus s1 ⟨xs,H1,j,r,z,q⟩=>⟨by rw[<- r.length];exact z,?_⟩)
 have hf:H1 s1.heap.objs.size=none:=j.hok.fresh (Nat.le_refl _);refine⟨.ref s1.heap.objs.size,upd H1 s1.heap.objs.size (.tup xs),j.laid (t':=s1.toks) (λb u e=>ag _ e) (Nat.le_refl _) ?_,rfl,q _ hf⟩;exact⟨z,us,r,⟨_,ar _ rfl,rfl,_,rfl⟩,cQ5⟩
theorem eJg(h:PA X es t):PE X (.List es pos) (tLst t):=by
 intro pins s σ H Q I B;refine wpAny_List_spliced (thn (h pos pins s σ H _ I B) λus s1 ⟨xs,H1,j,r,z,q⟩=>⟨by rw[<- r.length];exact z,?_⟩)
 have hf:H1 s1.heap.objs.size=none:=j.hok.fresh (Nat.le_refl _);refine⟨.ref s1.heap.objs.size,upd H1 s1.heap.objs.size (.lst xs),j.laid (t':=s1.toks) (λb u e=>ag _ e) (Nat.le_refl _) ?_,rfl,q _ hf⟩;exact⟨z,us,0,r,ar _ rfl⟩
end
abbrev Sp:=List V->Hp->VK->XK->Prop
abbrev CXT:=List Env->Hp->aj->XK->ae->aj->Prop
structure Env0(P:au)(w:aN)(K:ay)(mg:Str->Option ae)(base:bu)(A:bj)(outer:List Env)(s:aj)(H:Hp):Prop where
 frames:A.frames=some outer
 gd:A.guards=some []
 mod:Mod K mg base
 bs:∀b o,base.get? b=some o->s.heap.get? b=some o/\H b=none
 bsz:base.objs.size<=s.heap.objs.size
 funs:s.heap.FunFrames base outer
 frf:∀b∈frs outer,H b=none
 hok:HOk P w H s.heap
 bare:ja s.gens
def CE(outer:List Env)(P:au)(w:aN)(H:Hp)(s:aj)(Q:VK)(u:ae)(s':aj):Prop :=
 ∃v H',s'.os=s.os/\ja s'.gens/\Un (frs outer) [] H H' s.heap s'.heap/\HOk P w H' s'.heap/\RelV v u/\Q v H'
def CR(CX:CXT)(outer:List Env)(P:au)(w:aN)(H:Hp)(s:aj)(Q:VK)(E:XK)(r:Result)(s':aj):Prop :=
 match r with
 |.ok (.ret u)=>CE outer P w H s Q u s'
 |.ok _=>False
 |.error e=>CX outer H s E e s'
structure FnOk(P:au)(w:aN)(K:ay)(mg:Str->Option ae)(base:bu)(CX:CXT)(k:Nat)(f:Addr)(fd:d8)(ps:List Str)(sp:Sp):Prop where
 len:∀vs H Q E,sp vs H Q E->vs.length=ps.length
 run:∀(A:bj) (outer:List Env) (s:aj) (H:Hp) (args:Args) (us:List ae) (vs:List V) (Q:VK) (E:XK),Room k A->Env0 P w K mg base A outer s H->BindsTo s fd args (ps.zip us)->Vals vs us->sp vs H Q E ->
  fB (aF P w) A (.call (.ref f) args) (CR CX outer P w H s Q E) s
theorem FnOk.mono{P:au}{w:aN}{K:ay}{mg:Str->Option ae}{base:bu}{CX:CXT}{j k:Nat}{f:Addr}{fd:d8}{ps:List Str}{sp:Sp}(F:FnOk P w K mg base CX j f fd ps sp)(h:j<=k) :
  FnOk P w K mg base CX k f fd ps sp:=⟨F.len,λA outer s H args us vs Q E q=>F.run A outer s H args us vs Q E (q.mono h)⟩
section
variable{X:Cx}{pins:List (Addr×Obj)}{σ:St}{H:Hp}{s s':aj}
theorem Inv.env0(I:Inv X pins σ H s):Env0 X.prog X.w X.K X.mg X.base X.A X.stack s H :=
 ⟨I.ok.frames,I.ok.gd,I.ok.mod,I.bs,Nat.le_trans I.ok.bsz I.sz,I.stack,I.stkFree,I.hok,I.bare⟩
theorem Inv.after{Q:VK}{u:ae}(I:Inv X pins σ H s)(h:CE X.stack X.prog X.w H s Q u s'):EP X pins σ Q u s':=by
 obtain⟨v,H',os,bare,un,hok,r,q⟩:=h;obtain⟨B,g,d,t,j⟩:=s';obtain rfl:j=s.os:=os;exact⟨v,H',I.call (h':=B) (g':=g) (d':=d) (t':=t) (ch:=[]) un hok bare (λb z=>absurd z (by simp)),r,q⟩
end
def eJh(sp:Sp)(dvs:List V)(E:XK)(t:TA):TE:=fun σ H Q=>t σ H λvs H1=>sp (vs++dvs) H1 Q E
def Binds(K:ay)(fd:d8)(ps:List Str)(ds:List ae):Prop :=
 ∀(s:aj) (us:List ae),K.In s.heap->(us++ds).length=ps.length->BindsTo s fd ⟨us,[]⟩ (ps.zip (us++ds))
theorem Binds.all{K:ay}{fd:d8}{ps:List Str}(h:∀us:List ae,us.length=ps.length->bindArgs fd ⟨us,[]⟩=pure (ps.zip us)):Binds K fd ps []:=λs us _ hl=>by
 rw[cr] at hl ⊢;exact .of_eq (h us hl)
def cXc(CX:CXT)(X:Cx)(E:XK):Prop:=∀(pins:List (Addr×Obj)) (σ:St) (H:Hp) (s:aj) (e:ae) (s':aj),Inv X pins σ H s->CX X.stack H s E e s'->X.xe e s'
section
variable{X:Cx}{CX:CXT}{k:Nat}{f C:Addr}{fd:d8}{ps:List Str}{sp:Sp}{dvs:List V}{ds:List ae}{E:XK}{x m:Str}{p pos apos:Pos}{e o:Expr}{es:List Expr}{ta:TE}{t:TA}
theorem eJi{pins:List (Addr×Obj)}{σ:St}{H:Hp}{s:aj}{Q:VK}{us:List ae}{vs:List V}(F:FnOk X.prog X.w X.K X.mg X.base CX k f fd ps sp)(hr:Room k X.A)(hb:Binds X.K fd ps ds)(hd:Vals dvs ds)(hx:cXc CX X E)
  (I:Inv X pins σ H s) (r:Vals vs us) (h:sp (vs++dvs) H Q E):aE (aF X.prog X.w) X.A (call (.ref f) us) (EP X pins σ Q) X.xe s:=by
 have q:Vals (vs++dvs) (us++ds):=r.append hd;have hl:(us++ds).length=ps.length:=by rw[<- q.length];exact F.len _ _ _ _ h
 refine wpAny_call (iB (F.run X.A X.stack s H ⟨us,[]⟩ (us++ds) (vs++dvs) Q E hr I.env0 (hb s us I.kIn hl) q h) λr s' j=>?_);cases r with
 |error e=>exact hx pins σ H s e s' I j
 |ok fl =>
  cases fl with
  |ret u=>exact I.after j
  |next=>exact eC j
  |brk=>exact eC j
  |cont=>exact eC j
theorem eQ2(F:FnOk X.prog X.w X.K X.mg X.base CX k f fd ps sp)(hr:Room k X.A)(hg:Gl X x)(hm:X.mg x=some (.ref f))(hk:fO X.K (.ref f)=true)(hb:Binds X.K fd ps ds)(hd:Vals dvs ds)(hx:cXc CX X E)
  (ha:PA X (e::es) t) (hdb:(x==("__debug__":Str))=false:=by decide) (he:aC (e::es) X.env=(false,eval e X.env)::aC es X.env:=by rfl) (hpl:(cO pos (aC es X.env)).any (·.1)=false:=by rfl) :
  PE X (.Call (.Name x p) (e::es) [] pos) (eJh sp dvs E t):=by
 intro pins s σ H Q I h;refine gw (ld_glob I hg hm ?_ hdb);refine PySem.W.callWith_K (h₀:=X.base) I.ok.mod.kin hk (thn (ha pos pins s σ H _ I h) λus s1 ⟨vs,H1,j,r,q⟩=>⟨j.kIn,?_⟩) he hpl;exact eJi F hr hb hd hx j r q
end
structure FnScope(N P:List Str)(sc:Scope):Prop where
 kind:sc.kind=.function
 co:sc.isCoroutine=false
 gen:sc.isGenerator=false
 nd:N.Nodup
 pre:N.take P.length=P
 par:∀x∈P,sc.names.lookup x=some .local\/sc.names.lookup x=some .cell
 nofree:∀y∈sc.names,y.2≠.free
theorem bXa{kindOf:Str->Option fD}{x:Str}:∀{binds:List (Str×ae)}{m:Str->Option ae},(∀v,(x,v)∉binds)->bindL kindOf binds m x=m x
 |[],_,_=>rfl
 |(n,v)::r,m,h=>by
  unfold bindL;rw[bXa λw hw=>h w (ao _ hw)]
  split
  ·have:x≠n:=by rintro rfl;exact h v ak
   simp[this]
  ·rfl
theorem bindC_out{kindOf:Str->Option fD}{x:Str}:∀{binds:List (Str×ae)}{m:Str->Option ae},(∀v,(x,v)∉binds)->bindC kindOf binds m x=m x
 |[],_,_=>rfl
 |(n,v)::r,m,h=>by
  unfold bindC;rw[bindC_out λw hw=>h w (ao _ hw)]
  split
  ·rfl
  ·have:x≠n:=by rintro rfl;exact h v ak
   simp[this]
theorem bindL_get{kindOf:Str->Option fD}{x:Str}{v:ae}:∀{P:List Str}{vs:List ae}{i:Nat}{m:Str->Option ae},P.Nodup->P[i]?=some x->vs[i]?=some v->kindOf x=some .local ->
  bindL kindOf (P.zip vs) m x=some v
 |[],_,_,_,_,h,_,_=>by simp at h
 |_::_,[],_,_,_,_,h,_=>by simp at h
 |p::P,w::vs,0,m,nd,h1,h2,j=>by
  simp at h1 h2;subst h1;subst h2;show bindL kindOf ((p,w)::P.zip vs) m p=_;unfold bindL;rw[bXa λv q=>(bE.mp nd).1 (j7 q).1,if_pos j];simp
 |p::P,w::vs,i+1,m,nd,h1,h2,j=>by
  show bindL kindOf ((p,w)::P.zip vs) m x=_;unfold bindL;exact bindL_get (i:=i) (bE.mp nd).2 (by simpa using h1) (by simpa using h2) j
theorem bXb{kindOf:Str->Option fD}{x:Str}{v:ae}:∀{P:List Str}{vs:List ae}{i:Nat}{m:Str->Option ae},P.Nodup->P[i]?=some x->vs[i]?=some v->kindOf x≠some .local ->
  bindC kindOf (P.zip vs) m x=some v
 |[],_,_,_,_,h,_,_=>by simp at h
 |_::_,[],_,_,_,_,h,_=>by simp at h
 |p::P,w::vs,0,m,nd,h1,h2,j=>by
  simp at h1 h2;subst h1;subst h2;show bindC kindOf ((p,w)::P.zip vs) m p=_;unfold bindC;rw[bindC_out λv q=>(bE.mp nd).1 (j7 q).1,if_neg j];simp
 |p::P,w::vs,i+1,m,nd,h1,h2,j=>by
  show bindC kindOf ((p,w)::P.zip vs) m x=_;unfold bindC;exact bXb (i:=i) (bE.mp nd).2 (by simpa using h1) (by simpa using h2) j
def start(N:List Str)(vs:List V):St:=vs.map some++fP (N.length-vs.length) none
def cxOf(CX:CXT)(P:au)(w:aN)(K:ay)(mg:Str->Option ae)(base:bu)(N:List Str)(qual:Str)(scope:Scope)(f:Addr)(cd:ae)(A:bj)(outer:List Env)(s:aj)(H:Hp)(E:XK):Cx where
 prog:=P
 w:=w
 K:=K
 mg:=mg
 base:=base
 A:=A.deeper (jp qual scope s.heap.objs.size f cd)
 N:=N
 s₀:=s
 H₀:=H
 env:=jp qual scope s.heap.objs.size f cd
 outer:=outer
 stack:=jp qual scope s.heap.objs.size f cd::outer
 ex:=[]
 calm:=true
 fn:=λ_=>true
 pn:=[]
 xe:=λe s'=>aE (aF P w) (A.deeper (jp qual scope s.heap.objs.size f cd)) (leaving (jp qual scope s.heap.objs.size f cd) e) (λ_ s''=>CX outer H s E e s'') (λe' s''=>CX outer H s E e' s'') s'
theorem cQ8{sc:Scope}{n:Nat}{x:Str}(h:sc.names.lookup x=some .cell):∃c,(e9 n sc.names []).lookup x=some c:=by
 have q:=jR sc.names n [] (.inl h);exact cj.mp q
theorem cXd{CX:CXT}{P:au}{w:aN}{K:ay}{mg:Str->Option ae}{base:bu}{N ps:List Str}{qual:Str}{scope:Scope}{f:Addr}{cd:ae}{A:bj}{outer:List Env}{s s1:aj}{H:Hp}{E:XK}{us:List ae}{vs:List V}
  (S:FnScope N ps scope) (hd:A.handled=none) (e0:Env0 P w K mg base A outer s H) (hl:vs.length=ps.length) (r:Vals vs us)
  (x:InCallC s s.heap.objs.size (bindL (jp qual scope s.heap.objs.size f cd).kindOf (ps.zip us) λ_=>none) (e9 (s.heap.objs.size+1) scope.names []) (bindC (jp qual scope s.heap.objs.size f cd).kindOf (ps.zip us) λ_=>none) s1) :
  Inv (cxOf CX P w K mg base N qual scope f cd A outer s H E) [] (start N vs) H s1:=by
 have U:ps.length<=N.length:=by have:=congrArg d9 S.pre;rw[aM] at this;omega
 obtain⟨h1,Z,rfl,L⟩:=x.done;have j:∀b:Addr,b∉(cxOf CX P w K mg base N qual scope f cd A outer s H E).ex:=λb z=>absurd (show b∈([]:List Addr) from z) (by simp)
 refine⟨⟨e0.mod,S.kind,rfl,rfl,Nat.le_refl _,λy z c h1 h2=>?_,λy B=>?_,λy c _ h=>?_,λ_=>hd,bj.frames_deeper e0.frames,e0.gd,.inr ⟨rfl,rfl⟩,λb z=>absurd z (j b),e0.bs,e0.bsz,λb _ _=>j b,λb z=>absurd z (j b),e0.funs,e0.frf⟩,
  rfl,e0.bare,Un.kept L,⟨_,x.toInCall.ns,λi y v h1 h2 h3=>?_⟩,λy c h=>⟨_,x.cell y c h⟩,e0.hok.fresh (Nat.le_refl _),λy c h=>?_,λp G=>absurd (show p∈([]:List (Addr×Obj)) from G) (by simp),e0.hok.kept L,?_⟩
 ·exact name_of_addr x.apart (ft h1) (ft h2)
 ·have B:scope.names.lookup y=some .cell\/scope.names.lookup y=some .free:=B;rcases B with B|B
  ·exact cQ8 B
  ·exact absurd rfl (S.nofree _ (ft B))
 ·exact Nat.le_of_lt (x.above y c (ft h))
 ·have hi:i<vs.length:=by
   unfold start at h2
   by_cases hi:i<vs.length
   ·exact hi
   ·rw[bY (by simpa using hi)] at h2
    rw[List.getElem?_replicate] at h2
    split at h2 <;> cases h2
  have Y:vs[i]?=some v:=by
   unfold start at h2;rw[db (by simpa using hi),aL] at h2
   cases e:vs[i]? with
   |none=>rw[e] at h2;cases h2
   |some a=>rw[e] at h2;cases h2;rfl
  obtain⟨u,J,O⟩:=r.get Y;have G:ps[i]?=some y:=by
   rw[<- S.pre,gj (by omega)];exact h1
  have D:ps.Nodup:=by rw[<- S.pre];exact S.nd.sublist (jc _ _)
  refine⟨u,O,?_⟩;rcases S.par y (am G) with k|k
  ·exact .inl ⟨k,bindL_get D G J k⟩
  ·obtain⟨c,e⟩:=cQ8 (n:=s.heap.objs.size+1) k;refine .inr ⟨.inl k,c,e,?_⟩;have q:=x.cell y c e;rw[bXb D G J (by show scope.names.lookup y≠_;rw[k];decide)] at q
   exact q
 ·exact e0.hok.fresh (Nat.le_of_lt (x.above y c (ft h)))
 ·unfold start;show _=N.length;rw[ap,ah,List.length_replicate];omega
theorem fXm{CX:CXT}{P:au}{w:aN}{K:ay}{mg:Str->Option ae}{base:bu}{k:Nat}{f:Addr}{name qual:Str}{params:Arguments}{body:List Stmt}{scope:Scope}{dV kV doc pm cdv ct oc:ae}{an od:Option Addr}
  {osl:Array (Option ae)}{N ps:List Str}{sp:Sp}(lk:K.lookup f=some ⟨oc,od,.func (ff name qual params body scope dV kV doc pm an cdv ct),osl⟩) (hcd:gH K cdv qual=true) (S:FnScope N ps scope)
  (len:∀vs H Q E,sp vs H Q E->vs.length=ps.length)
  (hbody:∀ (A:bj) (outer:List Env) (s:aj) (H:Hp) (vs:List V) (Q:VK) (E:XK),Room k (A.deeper (jp qual scope s.heap.objs.size f cdv))->sp vs H Q E ->
   ∃t,PSs (cxOf CX P w K mg base N qual scope f cdv A outer s H E) body t/\t {nx:=λ_ H'=>Q .non H',rt:=Q} (start N vs) H) :
  FnOk P w K mg base CX (k+1) f (ff name qual params body scope dV kV doc pm an cdv ct) ps sp:=by
 refine⟨len,λA outer s H args us vs Q E L D Z r B=>?_⟩;have hl:=len _ _ _ _ B;have KX:K.In s.heap:=D.mod.kin.keeps λb o e=>(D.bs b o e).1;have lim:s.heap.NoLimit:=D.mod.nolimit.keeps λb o e=>(D.bs b o e).1;have j:∀y∈ps.zip us,scope.names.lookup y.1=some .local\/(scope.names.lookup y.1=some .cell/\((e9 (s.heap.objs.size+1) scope.names []).lookup y.1).isSome=true):=λ⟨n,v⟩ O=>by
  rcases S.par n (j7 O).1 with q|q
  ·exact .inl q
  ·exact .inr ⟨q,jR _ _ _ (.inl q)⟩
 refine codeAny_call_function L.depth (KX _ _ lk) rfl S.co S.gen rfl (PySem.W.codeRec_of KX hcd) (Z _ _ _ _ ?_);refine wpAny_newFunctionEnv_cells S.kind j λenv he s1 x=>?_;subst he;refine⟨lim.keeps x.toInCall.keep,codeAny_func ?_⟩;obtain⟨t,U,Y⟩:=hbody A outer s H vs Q E (L.deeper _) B;have I:Inv (cxOf CX P w K mg base N qual scope f cdv A outer s H E) [] (start N vs) H s1:=cXd S L.hd D hl r x;refine eB (U [] s1 (start N vs) H _ I Y) (λfl s' z=>?_) λe s' z=>z;have fin:∀{σ':St}{H':Hp}{v:V}{u:ae},Inv (cxOf CX P w K mg base N qual scope f cdv A outer s H E) [] σ' H' s'->RelV v u->Q v H'->CE outer P w H s Q u s' :=
  λ{σ' H' v u} J G q=>⟨v,H',J.os,J.bare,J.base,J.hok,G,q⟩
 cases fl with
 |ret u =>
  obtain⟨v,σ',H',J,G,q⟩:=z;exact fin J G q
 |next =>
  obtain⟨σ',H',J,q⟩:=z;exact fin (v:=V.non) (u:=ce) J rfl q
 |brk =>
  obtain⟨_,_,_,q⟩:=z;exact eC q
 |cont =>
  obtain⟨_,_,_,q⟩:=z;exact eC q
section
variable{X:Cx}{x:Str}{p pos:Pos}{e:Expr}{es:List Expr}{t:TA}{id T:String}{r:List V->Hp->VK->Prop}
def tCB(r:List V->Hp->VK->Prop)(t:TA):TE:=fun σ H Q=>t σ H λvs H1=>r vs H1 Q
theorem aJl(hc:CallR X (.builtin id) r)(hg:Gl X x)(hm:X.mg x=none)(hv:cI x=some (.builtin id))(ha:PA X (e::es) t)(hn:x ≠ "__name__":=by decide)(hdb:(x==("__debug__":Str))=false:=by decide)
  (he:aC (e::es) X.env=(false,eval e X.env)::aC es X.env:=by rfl) (hpl:(cO pos (aC es X.env)).any (·.1)=false:=by rfl):PE X (.Call (.Name x p) (e::es) [] pos) (tCB r t):=by
 intro pins s σ H Q I h;refine gw (ld_blt I hg hm hv ?_ hn hdb);exact PyProof.Rows.callWith_builtin1 (thn (ha pos pins s σ H _ I h) λus s1 ⟨vs,H1,z,j,q⟩=>hc pins s1 σ H1 vs us Q z j q) he hpl
theorem bXc(hc:CallR X (.type T) r)(hg:Gl X x)(hm:X.mg x=none)(hv:cI x=some (.type T))(ha:PA X (e::es) t)(hn:x ≠ "__name__":=by decide)(hdb:(x==("__debug__":Str))=false:=by decide)
  (he:aC (e::es) X.env=(false,eval e X.env)::aC es X.env:=by rfl) (hpl:(cO pos (aC es X.env)).any (·.1)=false:=by rfl):PE X (.Call (.Name x p) (e::es) [] pos) (tCB r t):=by
 intro pins s σ H Q I h;refine gw (ld_blt I hg hm hv ?_ hn hdb);exact dD (thn (ha pos pins s σ H _ I h) λus s1 ⟨vs,H1,z,j,q⟩=>hc pins s1 σ H1 vs us Q z j q) he hpl
end
end L2
namespace HT
open PySem PyProof.Rows
theorem rcLt_int(A:bj)(s:aj)(a:Int)(t:Tok)(c:Int)(u:Tok)(prog:au)(w:aN)(E:ae->aj->Prop)(Q:ae->aj->Prop)(h:Q (.bool (decide (a<c))) s) :
  aE (aF prog w) A (richCompare .Lt (.int a t) (.int c u)) Q E s :=
 (PyProof.Rows.lt_int h:aE (aF prog w) A (cy .Lt (.int a t) (.int c u)) Q E s)
section
variable{prog:au}{w:aN}{A:bj}{E:ae->aj->Prop}{s:aj}
theorem cat_tup{t b:Addr}{vs ws:List ae}{Q:ae->aj->Prop}(ht:i8 s.heap t vs.toArray)(hb:i8 s.heap b ws.toArray)(hv:vs≠[])
  (h1:ws=[]->Q (.ref t) s) (h2:ws≠[]->Q (.ref s.heap.objs.size) {s with heap:=s.heap.push {cls:=.type "tuple",data:=.seq (vs++ws).toArray}})
  (hsz:vs.length+ws.length<=sizeLine):aE (aF prog w) A (eD .Add (.ref t) (.ref b)) Q E s:=by
 obtain⟨⟨cls,dd,data,sl⟩,D,J,n,hd⟩:=id ht;obtain⟨⟨L,B,data2,q⟩,j,z,G,hd2⟩:=id hb;simp only at J hd z hd2;subst J hd z hd2;have e:vs.toArray++ws.toArray=(vs++ws).toArray:=by simp
 by_cases hw:ws=[]
 ·exact jS ⟨_,D,rfl⟩ ⟨_,j,rfl⟩ jy seq_tuple_add gI gC (gk _ _)
   (tuple_addW1 t b vs.toArray ws.toArray n G dd B sl q (by simpa using hv) (by simp[hw])) ⟨D,j,h1 hw⟩
 ·refine jS ⟨_,D,rfl⟩ ⟨_,j,rfl⟩ jy seq_tuple_add gI gC (gk _ _)
   (tuple_addW2 t b vs.toArray ws.toArray n G dd B sl q (by simpa using hv) (by simpa using hw) (by rw[aq,aq];exact hsz)) ⟨D,j,?_⟩
  rw[e];exact h2 hw
def sIx(n d:Nat):Option Int->Nat
 |none=>d
 |some v=>if v<0 then (v+(n:Int)).toNat else min v.toNat n
theorem sIx_none(n d:Nat):sIx n d none=d:=rfl
theorem sIx_nat(n d k:Nat):sIx n d (some (k:Int))=min k n:=by
 show(if (k:Int)<0 then ((k:Int)+(n:Int)).toNat else min (k:Int).toNat n)=min k n
 rw[if_neg (by omega),b5]
theorem sIx_le(n d:Nat)(hd:d<=n)(o:Option Int):sIx n d o<=n:=by
 cases o with
 |none=>exact hd
 |some v =>
  show(if v<0 then (v+(n:Int)).toNat else min v.toNat n)<=n
  by_cases j:v<0
  ·rw[if_pos j];omega
  ·rw[if_neg j];exact Nat.min_le_right _ _
theorem cXe(v:Int)(n d:Nat):(if v<0 then max (v+(n:Int)) 0 else min v (n:Int))=((sIx n d (some v):Nat):Int):=by
 show(if v<0 then max (v+(n:Int)) 0 else min v (n:Int))=(((if v<0 then (v+(n:Int)).toNat else min v.toNat n):Nat):Int)
 by_cases j:v<0
 ·simp only[if_pos j];omega
 ·simp only[if_neg j];omega
theorem cZi(lo hi:Option Int)(n:Nat):gc lo hi 1 (n:Int)=(((sIx n 0 lo:Nat):Int),((sIx n n hi:Nat):Int)):=by
 have h1:¬ ((1:Int)<0):=by omega
 unfold gc;simp only[h1,if_false];refine Prod.ext ?_ ?_
 ·cases lo with
  |none=>rfl
  |some v=>exact cXe v n 0
 ·cases hi with
  |none=>rfl
  |some v=>exact cXe v n n
theorem cZj(i j:Nat):eW (i:Int) (j:Int) 1=j-i:=by
 unfold eW;have h1:(1:Int)>0:=by omega
 simp only[h1,if_true,Int.ediv_one]
 split <;> omega
theorem bQt{v:ae}{o:Option Int}{Q:Option Int->aj->Prop}(p:IsPart v o)(h:Q o s):aE (aF prog w) A (cv.Slice.slicePartIndex v) Q E s:=by
 cases p with
 |none=>exact slicePart_none h
 |int i t=>exact slicePart_int h
theorem sliceApplied_gen{sl:Addr}{vl vu:ae}{lo hi:Option Int}{n:Nat}{Q:Int×Int×Nat->aj->Prop}(hs:s.heap.IsSliceOf sl vl vu .none)(pl:IsPart vl lo)(pu:IsPart vu hi)
  (h:Q (((sIx n 0 lo:Nat):Int),1,sIx n n hi-sIx n 0 lo) s):aE (aF prog w) A (fQ (.ref sl) (pure (n:Int))) Q E s:=by
 obtain⟨os,j,z,q⟩:=id hs;unfold fQ cv.Slice.sliceFields;refine aa (aa (ef j q (x:=vl) rfl (aa (ef j q (x:=vu) rfl (aa (ef j q (x:=.none) rfl (ad ?_)))))));refine aa (slicePart_none ?_);show aE _ _ (if ((1:Int)==0)=true then _ else _) _ _ s
 rw[if_neg (by decide)]
 refine aa (bQt pl (aa (bQt pu (aa (ad ?_)))));show aE _ _ (match gc lo hi 1 (n:Int) with|(lo,hi)=>pure (lo,(1:Int),eW lo hi 1)) _ _ s
 rw[cZi lo hi n];show aE _ _ (pure (((sIx n 0 lo:Nat):Int),(1:Int),eW ((sIx n 0 lo:Nat):Int) ((sIx n n hi:Nat):Int) 1)) _ _ s;rw[cZj];exact ad h
theorem dQv(xs:Array ae)(i k:Nat):((aI k).filterMap λ(m:Nat)=>xs[((i:Int)+(m:Int)*1).toNat]?).toArray=((xs.toList.drop i).take k).toArray:=by
 have e:(λ(m:Nat)=>xs[((i:Int)+(m:Int)*1).toNat]?)=λm=>xs[i+m]?:=by
  funext m
  have:((i:Int)+(m:Int)*1).toNat=i+m:=by omega
  rw[this]
 rw[e]
 have:=pick_run xs i k
 rw[List.filterMap_map] at this;have j:((λx=>xs[x]?)∘λx=>i+x)=λm=>xs[i+m]?:=rfl;rw[j] at this;rw[this]
theorem getItem_tuple_cut{t sl:Addr}{items:Array ae}{vl vu:ae}{lo hi:Option Int}{Q:ae->aj->Prop}(ht:i8 s.heap t items)(hs:s.heap.IsSliceOf sl vl vu .none)(pl:IsPart vl lo)(pu:IsPart vu hi)
  (hw:¬ (sIx items.size 0 lo=0/\sIx items.size items.size hi=items.size))
  (h:Q (.ref s.heap.objs.size) {s with heap:=s.heap.push {cls:=.type "tuple",data:=.seq ((items.toList.drop (sIx items.size 0 lo)).take (sIx items.size items.size hi-sIx items.size 0 lo)).toArray}})
  (hsz:items.size<=sizeLine):aE (aF prog w) A (jT (.ref t) (.ref sl)) Q E s:=by
 have j:sizeOk (.seq ((items.toList.drop (sIx items.size 0 lo)).take (sIx items.size items.size hi-sIx items.size 0 lo)).toArray):=by
  show((items.toList.drop (sIx items.size 0 lo)).take (sIx items.size items.size hi-sIx items.size 0 lo)).toArray.size<=sizeLine;rw[aq,aM,bm,bn];omega
 have U:sIx items.size items.size hi<=items.size:=sIx_le _ _ (Nat.le_refl _) hi;obtain⟨os,z,D,J⟩:=id hs;have G:s.TypeIs (.ref sl) "slice":=⟨os,z,D⟩;unfold jT
 try with_reducible refine bq ?_
 first|refine aa (ad ?_)|skip
 refine aa (wpAny_sequenceKey ht.typeIs (by decide) ?_)
 refine aa (cL (name:=bo "__getitem__") ht.typeIs cG
  (b6 cG ht.typeIs entry_tuple_getitem ?_ (args_tuple_getitem _ _)))
 show aE _ _ (fR (.ref t)>>=_) _ _ s;refine aa (tupleItemsOf_ ht ?_);refine aa (gJ G ?_);rw[if_pos (by decide)]
 refine aa (sliceApplied_gen hs pl pu ?_);have B:¬ ((((sIx items.size 0 lo:Nat):Int)==0&&(1:Int)==1&&(sIx items.size items.size hi-sIx items.size 0 lo)==items.size)=true):=by
  intro q;rw[aY,aY] at q;have O:((sIx items.size 0 lo:Nat):Int)=0:=hJ q.1.1;have L:sIx items.size items.size hi-sIx items.size 0 lo=items.size:=hJ q.2;exact hw ⟨by omega,by omega⟩
 show aE _ _ (if (((sIx items.size 0 lo:Nat):Int)==0&&(1:Int)==1&&(sIx items.size items.size hi-sIx items.size 0 lo)==items.size)=true then _ else _) _ _ s
 rw[if_neg B,dQv]
 first
  |exact aa (m:=cF _) (bA (ad ⟨_,rfl,ad h⟩) j)
  |exact aa (m:=cF _) (bA (aa (ad (ad ⟨_,rfl,ad h⟩))) j)
  |exact aa (aa (m:=cF _) (bA (ad (ad ⟨_,rfl,ad h⟩)) j))
  |exact aa (aa (m:=cF _) (bA (ad ⟨_,rfl,ad h⟩) j))
end
end HT
namespace L2
open PySem PySem.Spec PyProof.Rows
abbrev TO:=St->Hp->(Option Int->Hp->Prop)->Prop
def PO(X:Cx)(e:Option Expr)(t:TO):Prop :=
 ∀(pins:List (Addr×Obj)) (s:aj) (σ:St) (H:Hp) (Q:Option Int->Hp->Prop),Inv X pins σ H s->t σ H Q ->
  aE (aF X.prog X.w) X.A (evalPart e X.env) (λu s'=>∃o H',Inv X pins σ H' s'/\IsPart u o/\Q o H') X.xe s
def eQ3:TO:=λ_ H Q=>Q none H
def fXn(t:TE):TO:=fun σ H Q=>t σ H λx H1=>∃i,x=.int i/\Q (some i) H1
theorem bQu{ns:List Int}:∀{us:List ae},Vals (ns.map V.int) us->iC us ns:=by
 induction ns with
 |nil=>intro us r;rw[fY] at r;cases r;exact .nil
 |cons n ns z =>
  intro us r;rw[aU] at r;cases r with
  |cons q j =>
   obtain⟨t,e⟩:=q;subst e;exact .cons n t (z j)
section
variable{X:Cx}{e:Expr}{te:TE}{lo hi:Option Expr}{tl th:TO}{pos p2:Pos}
theorem eQ4:PO X none eQ3:=by
 intro pins s σ H Q I h;rw[evalPart_none];exact ad ⟨none,H,I,.none,h⟩
theorem eQ5(h:PE X e te):PO X (some e) (fXn te):=by
 intro pins s σ H Q I hw;rw[evalPart_some];refine thn (h pins s σ H _ I hw) λu s1 ⟨x,H1,B,j,z⟩=>?_;obtain⟨i,rfl,q⟩:=z;obtain⟨t,rfl⟩:=j;exact⟨some i,H1,B,.int i t,q⟩
def SlR(X:Cx)(r:V->Option Int->Option Int->Hp->VK->Prop):Prop :=
 ∀(pins:List (Addr×Obj)) (s:aj) (σ:St) (H:Hp) (x:V) (v vl vu:ae) (lo hi:Option Int) (sl:Addr) (Q:VK),Inv X pins σ H s->RelV x v->s.heap.IsSliceOf sl vl vu .none->IsPart vl lo->IsPart vu hi->r x lo hi H Q ->
  ∃T id,typeLookup (.type T) "__getitem__"=pure (some (.builtin id))/\s.TypeIs v T/\aE (aF X.prog X.w) X.A (jT v (.ref sl)) (EP X pins σ Q) X.xe s
theorem SlR.or{r r':V->Option Int->Option Int->Hp->VK->Prop}(h:SlR X r)(h':SlR X r'):SlR X (λx lo hi H Q=>r x lo hi H Q\/r' x lo hi H Q):=by
 intro pins s σ H x v z j lo hi sl Q I B D pl pu q;rcases q with q|q
 ·exact h pins s σ H x v z j lo hi sl Q I B D pl pu q
 ·exact h' pins s σ H x v z j lo hi sl Q I B D pl pu q
def tSl(r:V->Option Int->Option Int->Hp->VK->Prop)(te:TE)(tl th:TO):TE:=fun σ H Q=>te σ H λx H1=>tl σ H1 λl H2=>th σ H2 λu H3=>r x l u H3 Q
theorem dQw{r:V->Option Int->Option Int->Hp->VK->Prop}(hr:SlR X r)(he:PE X e te)(hl:PO X lo tl)(hu:PO X hi th):PE X (.Subscript e (.Slice lo hi none p2) pos) (tSl r te tl th):=by
 intro pins s σ H Q I h;refine Subscript_ (thn (he pins s σ H _ I h) λv s1 ⟨x,H1,I1,D,L⟩=>?_);refine wpAny_Slice (thn (hl pins s1 σ H1 _ I1 L) λz s2 ⟨l,H2,I2,pl,J⟩=>thn (hu pins s2 σ H2 _ I2 J) λj s3 ⟨u,B,I3,pu,G⟩=>?_);rw[evalPart_none];refine ad ?_;have Z:Inv X pins σ B {s3 with heap:=s3.heap.push {cls:=.type "slice",data:=.fields #[z,j,.none]}}:=I3.kept (t':=s3.toks) λb ob q=>ag _ q
 obtain⟨T,id,Y,O,U⟩:=hr pins {s3 with heap:=s3.heap.push {cls:=.type "slice",data:=.fields #[z,j,.none]}} σ B x v z j l u s3.heap.objs.size Q Z D (bu.IsSliceOf.new ..) pl pu G;show aE (aF X.prog X.w) X.A (subscriptTail e (.Slice lo hi none p2) v (.ref s3.heap.objs.size)) (EP X pins σ Q) X.xe {s3 with heap:=s3.heap.push {cls:=.type "slice",data:=.fields #[z,j,.none]}}
 exact tail_any (ops:=[.ref s3.heap.objs.size,v]) O Y U (by with_unfolding_all rfl)
def cutV(xs:List V)(lo hi:Option Int):List V:=(xs.drop (HT.sIx xs.length 0 lo)).take (HT.sIx xs.length xs.length hi-HT.sIx xs.length 0 lo)
theorem aJu(xs:List V)(lo hi:Option Int):(cutV xs lo hi).length<=xs.length:=by
 unfold cutV;rw[aM,bm];omega
def rSlT(K:ay):V->Option Int->Option Int->Hp->VK->Prop:=λx lo hi H Q=>∃a xs,x=.ref a/\SqT K H a xs /\
 ¬ (HT.sIx xs.length 0 lo=0/\HT.sIx xs.length xs.length hi=xs.length)/\∀p,H p=none->Q (.ref p) (upd H p (.tup (cutV xs lo hi)))
theorem eJj:SlR X (rSlT X.K):=by
 intro pins s σ H x v L J lo hi sl Q I rx G pl pu h;obtain⟨a,xs,rfl,D,hw,q⟩:=h;cases rx;obtain⟨j,r,B,z⟩:=I.tuple D;have hlen:j.toArray.size=xs.length:=by rw[aq];exact r.length.symm
 refine⟨"tuple",_,cG.lookup,B.typeIs,?_⟩;refine HT.getItem_tuple_cut B G pl pu (by rw[hlen];exact hw) ?_ (by rw[hlen];exact z)
 rw[hlen];refine⟨.ref s.heap.objs.size,_,I.laid (t':=s.toks) (o:=.tup (cutV xs lo hi)) (λb O q=>ag _ q) (Nat.le_refl _) ?_,rfl,q _ (I.hok.fresh (Nat.le_refl _))⟩;exact⟨Nat.le_trans (aJu xs lo hi) z,_,(r.drop (HT.sIx xs.length 0 lo)).take (HT.sIx xs.length xs.length hi-HT.sIx xs.length 0 lo),i8.new _ _,cQ5⟩
def eQ6(K:ay):R2:=λx y H Q=>∃a b xs ys,x=.ref a/\y=.ref b/\SqT K H a xs/\SqT K H b ys/\xs≠[]/\xs.length+ys.length<=sizeLine /\
 (ys=[]->Q (.ref a) H)/\(ys≠[]->∀p,H p=none->Q (.ref p) (upd H p (.tup (xs++ys))))
theorem Vals.nil_iff{xs:List V}{us:List ae}(r:Vals xs us):us=[]↔xs=[]:=by
 cases r with
 |nil=>simp
 |cons _ _=>simp
theorem eQ7:OpR X (eD .Add) (eQ6 X.K):=by
 intro pins s σ H x y v u Q I rx ry h;obtain⟨a,b,xs,ys,rfl,rfl,ha,Z,Y,G,L,J⟩:=h;cases rx;cases ry;obtain⟨U,B,O,_⟩:=I.tuple ha;obtain⟨D,j,p2,_⟩:=I.tuple Z;refine HT.cat_tup O p2 (λz=>Y (B.nil_iff.mp z)) (λz=>⟨.ref a,H,I,rfl,L (j.nil_iff.mp z)⟩) (λz=>?_) (by rw[<- B.length,<- j.length];exact G)
 refine⟨.ref s.heap.objs.size,_,I.laid (t':=s.toks) (o:=.tup (xs++ys)) (λb ob q=>ag _ q) (Nat.le_refl _) ?_,rfl,J (λw=>z (j.nil_iff.mpr w)) _ (I.hok.fresh (Nat.le_refl _))⟩;exact⟨by rw[ap];exact G,_,B.append j,i8.new _ _,cQ5⟩
end
def ixN(n:Nat)(i:Int):Option Nat:=if 0<=i then (if i<n then some i.toNat else none) else if -(n:Int)<=i then some (i+n).toNat else none
def atI{α:Type}(xs:List α)(i:Int):Option α:=(ixN xs.length i).bind λj=>xs[j]?
theorem bJ6{n:Nat}{i:Int}{j:Nat}(h:ixN n i=some j):seqIndex? i n=some j/\j<n/\-(n:Int)<=i/\i<n:=by
 unfold ixN at h
 by_cases h0:0<=i
 ·rw[if_pos h0] at h
  by_cases h1:i<n
  ·rw[if_pos h1] at h;have e:i.toNat=j:=aO h;exact⟨by rw[seqIndex_of h0 h1,e],by omega,by omega,h1⟩
  ·rw[if_neg h1] at h;cases h
 ·rw[if_neg h0] at h
  by_cases h1:-(n:Int)<=i
  ·rw[if_pos h1] at h;have e:(i+n).toNat=j:=aO h;exact⟨by rw[seqIndex_neg (by omega) h1,e],by omega,h1,by omega⟩
  ·rw[if_neg h1] at h;cases h
theorem bJ7{α:Type}{xs:List α}{i:Int}{v:α}(h:atI xs i=some v):∃j,seqIndex? i xs.length=some j/\xs[j]?=some v/\j<xs.length/\-(xs.length:Int)<=i/\i<xs.length:=by
 unfold atI at h;cases e:ixN xs.length i with
 |none=>rw[e] at h;cases h
 |some j =>
  rw[e] at h;obtain⟨h1,h2,z,q⟩:=bJ6 e;exact⟨j,h1,h,h2,z,q⟩
theorem bJ8{α:Type}{xs:List α}{j:Nat}{v:α}(h:xs[j]?=some v):atI xs (j:Int)=some v:=by
 have q:j<xs.length:=(aB.mp h).1;have e:ixN xs.length (j:Int)=some j:=by
  unfold ixN;rw[if_pos (by omega),if_pos (by omega)];simp
 unfold atI;rw[e];exact h
theorem dQx{α:Type}(xs:List α)(v:α):atI (xs++[v]) (-1)=some v:=by
 have hl:(xs++[v]).length=xs.length+1:=by simp
 have e:ixN (xs++[v]).length (-1)=some xs.length:=by
  unfold ixN;rw[hl,if_neg (by decide),if_pos (by omega)]
  congr 1
  omega
 unfold atI;rw[e];show(xs++[v])[xs.length]?=some v;simp
def PlainIx(b:Expr):Prop:=∀o i,subscripted b false o i=operate [o,i] (jT o i)
def IxR(X:Cx)(r:R2):Prop :=
 ∀(value slice:Expr) (pins:List (Addr×Obj)) (s:aj) (σ:St) (H:Hp) (x y:V) (v u:ae) (Q:VK),Inv X pins σ H s->RelV x v->RelV y u->r x y H Q ->
  subscripted slice false v u=operate [v,u] (jT v u)->aE (aF X.prog X.w) X.A (subscriptTail value slice v u) (EP X pins σ Q) X.xe s
def MtR(X:Cx)(id:String)(r:V->List V->Hp->VK->Prop):Prop :=
 ∀(pins:List (Addr×Obj)) (s:aj) (σ:St) (H:Hp) (x:V) (xs:List V) (v:ae) (us:List ae) (Q:VK),Inv X pins σ H s->RelV x v->Vals xs us->r x xs H Q ->
  aE (aF X.prog X.w) X.A (call (.builtin id) (v::us)) (EP X pins σ Q) X.xe s
section
variable{X:Cx}{a b:Expr}{ta tb:TE}{pos:Pos}
theorem IxR.or{r r':R2}(h:IxR X r)(h':IxR X r'):IxR X (λx y H Q=>r x y H Q\/r' x y H Q):=by
 intro value slice pins s σ H x y v u Q I z j q B;rcases q with q|q
 ·exact h value slice pins s σ H x y v u Q I z j q B
 ·exact h' value slice pins s σ H x y v u Q I z j q B
theorem pe_ix{r:R2}(hr:IxR X r)(ha:PE X a ta)(hb:PE X b tb)(hs:PlainIx b):PE X (.Subscript a b pos) (tOp r ta tb):=by
 intro pins s σ H Q I h;exact Subscript_ (binT ha hb I h λv u s2 x y H2 B z j q=>hr a b pins s2 σ H2 x y v u Q B z j q (hs _ _))
def rIxL(K:ay):R2:=λx y H Q=>∃p xs i v,x=.ref p/\y=.int i/\SqL K H p xs/\atI xs i=some v/\Q v H
def rIxT(K:ay):R2:=λx y H Q=>∃p xs i v,x=.ref p/\y=.int i/\SqT K H p xs/\atI xs i=some v/\Q v H
def rIxS:R2:=λx y H Q=>∃z i c,x=.str z/\y=.int i/\z.length<=sizeLine/\atI z.cps.toList i=some c/\Q (.str ⟨#[c]⟩) H
theorem ix_list:IxR X (rIxL X.K):=by
 intro value slice pins s σ H x y v u Q I rx O h J;obtain⟨p,xs,i,z,rfl,rfl,U,he,q⟩:=h;cases rx;obtain⟨t,rfl⟩:=O;obtain⟨D,r,pl,hz⟩:=I.list U;obtain⟨j,h1,h2,h3,Z,Y⟩:=bJ7 he;obtain⟨w,L,B⟩:=r.get h2;have hl:=r.length;have hn:=aJs;have fin:EP X pins σ Q w s:=⟨z,H,I,B,q⟩
 by_cases h0:0<=i
 ·have G:i.toNat=j:=by
   rw[seqIndex_of h0 Y] at h1;exact aO h1
  exact item_listR pl.isList h0 (by omega) (by rw[G];simpa using L) fin J
 ·have G:(i+(D.toArray.size:Int)).toNat=j:=by
   rw[seqIndex_neg (by omega) Z] at h1
   rw[aq,<- hl];exact aO h1
  exact subscriptTail_builtinR (x:=w) pl.isList.typeIs slot_list_getitem.lookup
   (wpAny_getItem_list_neg (Q:=λr s'=>r=w/\EP X pins σ Q r s') pl.isList (by omega) (by rw[aq] <;> omega) (by omega) (by rw[G];simpa using L) ⟨rfl,fin⟩) J
theorem ix_tup:IxR X (rIxT X.K):=by
 intro value slice pins s σ H x y v u Q I rx D h J;obtain⟨p,xs,i,z,rfl,rfl,L,he,q⟩:=h;cases rx;obtain⟨t,rfl⟩:=D;obtain⟨G,r,pl,U⟩:=I.tuple L;obtain⟨j,h1,h2,h3,h4,Z⟩:=bJ7 he;obtain⟨w,O,B⟩:=r.get h2;have hl:=r.length;have Y:=aJs;have fin:EP X pins σ Q w s:=⟨z,H,I,B,q⟩;exact subscriptTail_builtinR (x:=w) pl.typeIs slot_tuple_getitem.lookup
  (getItem_tuple (j:=j) (Q:=λr s'=>r=w/\EP X pins σ Q r s') pl (by omega) (by omega) (by rw[aq,<- hl];exact h1) (by simpa using O) ⟨rfl,fin⟩) J
theorem eJk:IxR X rIxS:=by
 intro value slice pins s σ H x y v u Q I D B h G;obtain⟨z,i,c,rfl,rfl,Z,he,q⟩:=h;obtain⟨t,rfl⟩:=D;obtain⟨Y,rfl⟩:=B;obtain⟨j,h1,h2,h3,L,J⟩:=bJ7 he;have hl:z.cps.toList.length=z.length:=by simp[Str.length]
 rw[hl] at h1 L J;have hn:=aJs;exact tail_any (typeIs_str s z t) slot_str_getitem.lookup (getItem_str (c:=c) (by
  have U:decide (i < -(2^63:Int))=false:=decide_eq_false (by omega)
  have O:decide (i>=2^63)=false:=decide_eq_false (by omega)
  rw[U,O,Bool.or_false]) (by rw[h1];simpa using h2) ⟨.str ⟨#[c]⟩,H,I.tok _,⟨_,rfl⟩,q⟩) G
def rIx(K:ay):R2:=λx y H Q=>rIxL K x y H Q\/rIxT K x y H Q\/rIxS x y H Q
theorem eJl:IxR X (rIx X.K):=ix_list.or (ix_tup.or eJk)
theorem cZk(its:List ae)(n j:Nat)(u:ae):bU (·.setIfInBounds j u) {cls:=.type "list",data:=.seq its.toArray n}={cls:=.type "list",data:=.seq (its.set j u).toArray n}:=by
 simp[bU]
theorem Inv.lst{pins:List (Addr×Obj)}{σ:St}{H:Hp}{s:aj}{p:Addr}{xs:List V}(I:Inv X pins σ H s)(h:H p=some (.lst xs)) :
  ∃(its:List ae) (n:Nat),Vals xs its/\s.heap.get? p=some {cls:=.type "list",data:=.seq its.toArray n}/\xs.length<=sizeLine:=by
 obtain⟨z,its,n,r,e⟩:=I.hok p _ h;exact⟨its,n,r,e,z⟩
theorem Inv.lstUpd{pins:List (Addr×Obj)}{σ:St}{H:Hp}{s:aj}{p:Addr}{xs ys:List V}{its its':List ae}{n n':Nat}{f:Obj->Obj}(I:Inv X pins σ H s)(h:H p=some (.lst xs))
  (ho:s.heap.get? p=some {cls:=.type "list",data:=.seq its.toArray n}) (hf:f {cls:=.type "list",data:=.seq its.toArray n}={cls:=.type "list",data:=.seq its'.toArray n'}) (r:Vals ys its') (hz:ys.length<=sizeLine) (t:Nat) :
  Inv X pins σ (upd H p (.lst ys)) {s with heap:=s.heap.update p f,toks:=t}:=by
 have e:(s.heap.update p f).get? p=some {cls:=.type "list",data:=.seq its'.toArray n'}:=by
  rw[cH f ho (by rw[hf] <;> rfl),hf]
 refine I.write (x:=p) (e:=p) (by rw[h];trivial) (.inl rfl) (λb u j q=>(bL _ _ (cA j)).trans q) ⟨_,e⟩ ?_
 exact⟨hz,its',n',r,e⟩
def fXo:V->V->V->Hp->(Hp->Prop)->Prop:=λo i v H Q=>∃p xs k j,o=.ref p/\i=.int k/\H p=some (.lst xs)/\ixN xs.length k=some j/\Q (upd H p (.lst (xs.set j v)))
theorem dQy:PSet X fXo:=by
 intro pins s σ H o i v ov iv u Q I ro Y U h;obtain⟨p,xs,k,j,rfl,rfl,G,hj,q⟩:=h;cases ro;obtain⟨t,rfl⟩:=Y;obtain⟨z,n,r,B,Z⟩:=I.lst G;obtain⟨h1,h2,L,J⟩:=bJ6 hj;have hl:=r.length;have hn:=aJs;have O:Inv X pins σ (upd H p (.lst (xs.set j v))) {s with heap:=s.heap.update p (bU (·.setIfInBounds j u))} :=
  I.lstUpd G B (cZk z n j u) (r.set U j) (by rw[List.length_set];exact Z) s.toks
 by_cases h0:0<=k
 ·have D:k.toNat=j:=by
   rw[seqIndex_of h0 J] at h1;exact aO h1
  exact PySem.W.ki_setAt B h0 (by omega) (by rw[aq,<- hl];exact J) (by rw[D];exact⟨_,O,q⟩)
 ·have D:(k+(z.toArray.size:Int)).toNat=j:=by
   rw[seqIndex_neg (by omega) L] at h1
   rw[aq,<- hl];exact aO h1
  exact PySem.W.ki_setBack B (by omega) (by rw[aq,<- hl];exact L) (by omega) (by rw[D];exact⟨_,O,q⟩)
theorem aJa(lo hi:Option Int)(n:Nat):(fx lo hi none n).1=((HT.sIx n 0 lo:Nat):Int)/\(fx lo hi none n).2.1=((HT.sIx n n hi:Nat):Int)/\(fx lo hi none n).2.2=1:=by
 refine⟨?_,?_,rfl⟩
 ·cases lo with
  |none=>simp[fx,HT.sIx]
  |some i =>
   simp only[fx,HT.sIx,jz,show(1:Int)>0 by decide,if_true]
   by_cases h:i<0
   ·simp only[h,if_true] <;> omega
   ·simp only[h,if_false] <;> omega
 ·cases hi with
  |none=>simp[fx,HT.sIx]
  |some i =>
   simp only[fx,HT.sIx,jz,show(1:Int)>0 by decide,if_true]
   by_cases h:i<0
   ·simp only[h,if_true] <;> omega
   ·simp only[h,if_false] <;> omega
theorem bZ6(its:List ae)(lo hi:Option Int):slicePick its.toArray lo hi none=((its.drop (HT.sIx its.length 0 lo)).take (HT.sIx its.length its.length hi-HT.sIx its.length 0 lo)).toArray:=by
 obtain⟨h1,h2,j⟩:=aJa lo hi its.toArray.size;unfold slicePick;rw[h1,h2,j];simp only[sliceRange_one,pick_run,aq] <;> rfl
def rSlL(K:ay):V->Option Int->Option Int->Hp->VK->Prop:=λx lo hi H Q=>∃a xs,x=.ref a/\SqL K H a xs/\∀p,H p=none->Q (.ref p) (upd H p (.lst (cutV xs lo hi)))
theorem eQ8:SlR X (rSlL X.K):=by
 intro pins s σ H x v L J lo hi sl Q I rx G pl pu h;obtain⟨a,xs,rfl,D,q⟩:=h;cases rx;obtain⟨z,r,j,B⟩:=I.list D;have hlen:=r.length;refine⟨"list",_,slot_list_getitem.lookup,j.isList.typeIs,?_⟩;refine wpAny_getItem_list_slice j.isList G pl pu .none (by simp) ?_ (by rw[aq] <;> omega)
 rw[bZ6,<- hlen];refine⟨.ref s.heap.objs.size,_,I.laid (t':=s.toks) (o:=.lst (cutV xs lo hi)) (λb O q=>ag _ q) (Nat.le_refl _) ?_,rfl,q _ (I.hok.fresh (Nat.le_refl _))⟩;exact⟨Nat.le_trans (aJu xs lo hi) B,_,0,(r.drop (HT.sIx xs.length 0 lo)).take (HT.sIx xs.length xs.length hi-HT.sIx xs.length 0 lo),ar _ rfl⟩
theorem CallR.or{f:ae}{r r':List V->Hp->VK->Prop}(h:CallR X f r)(h':CallR X f r'):CallR X f (λxs H Q=>r xs H Q\/r' xs H Q):=by
 intro pins s σ H xs us Q I rs q;rcases q with q|q
 ·exact h pins s σ H xs us Q I rs q
 ·exact h' pins s σ H xs us Q I rs q
theorem call_tuple_of:CallR X (.type "tuple") (λxs H Q=>∃p ys,xs=[.ref p]/\((SqL X.K H p ys/\∀l,H l=none->Q (.ref l) (upd H l (.tup ys)))\/(SqT X.K H p ys/\Q (.ref p) H))):=by
 intro pins s σ H xs us Q I r h;obtain⟨p,ys,rfl,h⟩:=h;obtain⟨u,rfl,rx⟩:=aXx r;cases rx;rcases h with⟨B,q⟩|⟨B,q⟩
 ·obtain⟨j,z,pl,D⟩:=I.list B;have hlen:=z.length;refine call_tuple_list pl.isList (λh' kp=>?_) (by simp only[aq] <;> omega)
  have G:Inv X pins σ H {s with heap:=h'}:=I.kept (t':=s.toks) kp
  have J:Inv X pins σ (upd H h'.objs.size (.tup ys)) {s with heap:=h'.push {cls:=.type "tuple",data:=.seq j.toArray}} :=
   G.laid (t':=s.toks) (λb o e=>ag _ e) (Nat.le_refl _) (show ObjOk X.prog X.w _ _ _ (.tup ys) from⟨D,j,z,i8.new _ _,cQ5⟩)
  exact⟨.ref h'.objs.size,_,J,rfl,q _ (G.hok.fresh (Nat.le_refl _))⟩
 ·obtain⟨j,z,pl,D⟩:=I.tuple B;exact call_tuple_same pl ⟨.ref p,H,I,rfl,q⟩
def tyV(K:ay)(T:String)(x:V)(H:Hp):Prop:=match x with
 |.str _=>T="str"
 |.int _=>T="int"
 |.ref p=>(T="list"/\∃xs,SqL K H p xs)\/(T="tuple"/\∃o,K.lookup p=some o/\o.cls=.type "tuple"/\o.dict=none) \/
   (T="dict"/\((∃kvs,H p=some (.dK kvs))\/∃kvs,H p=some (.dT kvs)))\/(T="set"/\∃S n,H p=some (.set S n))
 |_=>False
theorem eJm{pins:List (Addr×Obj)}{σ:St}{H:Hp}{s:aj}{T:String}{x:V}{v:ae}(I:Inv X pins σ H s)(r:RelV x v)(ty:tyV X.K T x H) :
  s.TypeIs v T/\∀a,v=.ref a->∃ob,s.heap.get? a=some ob/\ob.dict=none:=by
 cases x with
 |str z =>
  obtain⟨t,rfl⟩:=r;cases (show T="str" from ty)
  exact⟨typeIs_str s z t,λ_ e=>nomatch e⟩
 |int i =>
  obtain⟨t,rfl⟩:=r;cases (show T="int" from ty)
  exact⟨typeIs_int s i t,λ_ e=>nomatch e⟩
 |ref p =>
  cases r;rcases ty with⟨rfl,xs,D⟩|⟨rfl,o,j,G,hd⟩|⟨rfl,j⟩|⟨rfl,S,n,j⟩
  ·obtain⟨B,_,pl,_⟩:=I.list D;refine⟨pl.isList.typeIs,λa e=>?_⟩;cases e;obtain⟨o,n,e,c,hd,_⟩:=pl;exact⟨o,e,hd⟩
  ·refine⟨⟨o,I.kIn p o j,G⟩,λa e=>?_⟩;cases e;exact⟨o,I.kIn _ o j,hd⟩
  ·have z:∃o,s.heap.get? p=some o/\o.ExactDict:=by
    rcases j with⟨q,j⟩|⟨q,j⟩
    ·obtain⟨_,_,_,_,o,_,_,e,ex,_⟩:=I.hok p _ j;exact⟨o,e,ex⟩
    ·obtain⟨_,_,_,_,o,_,_,e,ex,_⟩:=I.hok p _ j;exact⟨o,e,ex⟩
   obtain⟨o,e,ex⟩:=z;refine⟨⟨o,e,ex.1⟩,λa e2=>?_⟩;cases e2;exact⟨o,e,ex.2.1⟩
  ·obtain⟨o,_,_,_,e,ex,_⟩:=I.hok p _ j;refine⟨⟨o,e,ex.1⟩,λa e2=>?_⟩;cases e2;exact⟨o,e,ex.2.1⟩
 |_=>exact eC ty
def tBM(K:ay)(T:String)(r:V->List V->Hp->VK->Prop)(to:TE)(t:TA):TE:=fun σ H Q=>to σ H λx H1=>tyV K T x H1/\t σ H1 λxs H2=>r x xs H2 Q
variable{o e:Expr}{es:List Expr}{to:TE}{t:TA}{name:Str}{apos cpos:Pos}{T id:String}{r:V->List V->Hp->VK->Prop}
theorem fXp(pa:PlainAttrs T)(slot:Slot T name id)(hty:typeOf (.builtin id)=pure (.type "method_descriptor"))(hm:MtR X id r)(ho:PE X o to)(ha:PA X (e::es) t)
  (hbase:eM o name X.env (eval o X.env)=eval o X.env:=by rfl)
  (hfew:((cO cpos (aC (e::es) X.env)).all (λx=>!x.1) && (io cpos (fy [] X.env)).all (λx=>x.1.isSome)
   && decide ((e::es).length+([]:List fZ).length+(if ([]:List fZ).isEmpty then 0 else 1)<30))=true:=by rfl)
  (hline:(apos.endLine==cpos.line)=true:=by rfl) (hs:aC (e::es) X.env=(false,eval e X.env)::aC es X.env:=by rfl) (hplain:(cO cpos (aC es X.env)).any (·.1)=false:=by rfl) :
  PE X (.Call (.Attribute o name apos) (e::es) [] cpos) (tBM X.K T r to t):=by
 intro pins s σ H Q I h;refine wpAny_Call_method_late hbase hfew hline rfl (thn (ho pins s σ H _ I h) λv s1 ⟨x,H1,z,j,ty,G⟩=>?_);obtain⟨h1,h2⟩:=eJm z j ty;refine⟨T,id,pa,slot,hty,h1,h2,?_⟩;have q:=ha cpos pins s1 σ H1 _ z G;rw[hs] at q ⊢;refine gK (by show(false||(cO cpos (aC es X.env)).any (·.1))=false;rw[hplain] <;> rfl) (Calls.evalArgs_plain ?_)
 exact thn q λus s2 ⟨vs,H2,J,B,D⟩=>hm pins s2 σ H2 x vs v us Q J j B D
end
def MtM(X:Cx)(id:String)(r:V->List V->Hp->VK->Prop):Prop :=
 ∀(pins:List (Addr×Obj)) (s:aj) (σ:St) (H:Hp) (x:V) (xs:List V) (v:ae) (us:List ae) (Q:VK),Inv X pins σ H s->RelV x v->Vals xs us->r x xs H Q ->
  aE (aF X.prog X.w) X.A (call (.builtin id) (v::us)) (EP X pins σ Q) X.xe s
theorem Vals.one:∀{x:V}{us:List ae},Vals [x] us->∃u,us=[u]/\RelV x u:=by
 intro x us h;cases h with
 |cons r t=>cases t;exact⟨_,rfl,r⟩
theorem Vals.eraseIdx:∀{xs:List V}{us:List ae}(i:Nat),Vals xs us->Vals (xs.eraseIdx i) (us.eraseIdx i)
 |_,_,_,.nil=>.nil
 |_,_,0,.cons _ t=>t
 |_,_,i+1,.cons r t=>.cons r (Vals.eraseIdx i t)
theorem bXd{α:Type}:∀(l:List α) (i:Nat),(l.eraseIdx i).length<=l.length
 |[],_=>Nat.le_refl _
 |_::_,0=>Nat.le_succ _
 |_::r,i+1=>Nat.succ_le_succ (bXd r i)
section
variable{X:Cx}{pins:List (Addr×Obj)}{σ:St}{H:Hp}{s:aj}{l b:Addr}{xs ys zs:List V}
theorem Inv.lset{its its':List ae}{n:Nat}{f:Array ae->Array ae}{t':Nat}(I:Inv X pins σ H s)(hH:H l=some (.lst xs))
  (e:s.heap.get? l=some {cls:=.type "list",data:=.seq its.toArray n}) (hf:f its.toArray=its'.toArray) (hv:Vals ys its') (hz:ys.length<=sizeLine) :
  Inv X pins σ (upd H l (.lst ys)) {s with heap:=s.heap.update l (bU f),toks:=t'}:=by
 have q:=PySem.IsL.update e f;rw[hf] at q;refine I.write (x:=l) (e:=l) (by rw[hH];exact trivial) (.inl rfl) (λB u z j=>(bL s.heap (bU f) (cA z)).trans j) ⟨_,q⟩ ?_
 exact⟨hz,its',_,hv,q⟩
theorem Inv.lnew{its:List ae}{t':Nat}(I:Inv X pins σ H s)(hv:Vals ys its)(hz:ys.length<=sizeLine) :
  Inv X pins σ (upd H s.heap.objs.size (.lst ys)) {s with heap:=s.heap.push {cls:=.type "list",data:=.seq its.toArray},toks:=t'} :=
 I.laid (λ_ _ q=>ag _ q) (Nat.le_refl _) ⟨hz,its,0,hv,ar _ rfl⟩
theorem Inv.fresh(I:Inv X pins σ H s):H s.heap.objs.size=none:=I.hok.fresh (Nat.le_refl _)
theorem Inv.lstM(I:Inv X pins σ H s)(hH:H l=some (.lst xs)):xs.length<=sizeLine/\∃(its:List ae) (n:Nat),Vals xs its/\xs.length=its.length/\s.heap.get? l=some {cls:=.type "list",data:=.seq its.toArray n}:=by
 obtain⟨z,its,n,r,e⟩:=I.hok l _ hH;exact⟨z,its,n,r,r.length,e⟩
theorem dQz{n:Nat}(h:n<=sizeLine):gl n=false:=by
 unfold gl;exact decide_eq_false (by omega)
end
section
variable{X:Cx}
def cXf:V->List V->Hp->VK->Prop:=λx vs H Q=>∃l xs y,x=.ref l/\vs=[y]/\H l=some (.lst xs)/\xs.length<sizeLine/\Q .non (upd H l (.lst (xs++[y])))
theorem bXe:MtM X "list.append" cXf:=by
 intro pins s σ H x vs v us Q I rx D h;obtain⟨l,xs,y,rfl,rfl,B,J,q⟩:=h;cases rx;obtain⟨u,rfl,G⟩:=D.one;obtain⟨z,j,n,r,hl,e⟩:=I.lstM B;refine call_meets F.slot_list_append ⟨_,e,rfl⟩ F.entry_list_append (F.args_list_append_2 _ _) (PySem.list_append l j.toArray n u (by rw[aq];omega)) ⟨e,?_⟩
 refine⟨.non,_,I.lset (its':=j++[u]) B e (by simp) (r.append (.cons G .nil)) ?_,rfl,q⟩
 rw[ap,dW];omega
def cXg:V->List V->Hp->VK->Prop:=λx vs H Q=>∃l b xs zs,x=.ref l/\vs=[.ref b]/\H l=some (.lst xs)/\H b=some (.lst zs)/\xs.length+zs.length<=sizeLine/\Q .non (upd H l (.lst (xs++zs)))
theorem cXh:MtM X "list.extend" cXg:=by
 intro pins s σ H x vs v us Q I rx L h;obtain⟨l,b,xs,zs,rfl,rfl,J,Z,hz,q⟩:=h;cases rx;obtain⟨u,rfl,ru⟩:=L.one;cases ru;obtain⟨z,B,n,r,hl,e⟩:=I.lstM J;obtain⟨z2,j,U,O,Y,e2⟩:=I.lstM Z;have G:B.toArray.size+j.toArray.size<=sizeLine:=by rw[aq,aq];omega
 have D:¬ (!B.toArray.isEmpty&&gl (B.toArray.size+j.toArray.size))=true:=by
  rw[dQz G,kj];exact bz
 refine call_meets F.slot_list_extend ⟨_,e,rfl⟩ F.entry_list_extend (F.args_list_extend_2 _ _)
  (AutoSeq1.list_extend_list_list_0 l B.toArray n b j.toArray U D (by rw[aq];omega) (by omega)) ⟨e,e2,?_⟩
 refine⟨.non,_,I.lset (its':=B++j) J e (by simp) (r.append O) ?_,rfl,q⟩
 rw[ap];omega
def dXm:V->List V->Hp->VK->Prop:=λx vs H Q=>∃l xs i k y,x=.ref l/\vs=[.int i]/\H l=some (.lst xs)/\-(2^63)<=i/\i<2^63/\seqIndex? i xs.length=some k/\xs[k]?=some y/\Q y (upd H l (.lst (xs.eraseIdx k)))
theorem dZ0:MtM X "list.pop" dXm:=by
 intro pins s σ H x vs v us Q I rx G h;obtain⟨l,xs,i,k,y,rfl,rfl,D,h1,h2,O,L,q⟩:=h;cases rx;obtain⟨u,rfl,J⟩:=G.one;obtain⟨t,rfl⟩:=J;obtain⟨z,j,n,r,hl,e⟩:=I.lstM D;obtain⟨w,hw,B⟩:=r.get L;refine call_meets F.slot_list_pop ⟨_,e,rfl⟩ F.entry_list_pop (F.args_list_pop_2 _ _)
  (MeetsSeq.list_pop_at l j.toArray n i t k w (fitsIndex_both h1 h2) (by rw[aq,<- hl];exact O) (by rw[<- aW];exact hw) (by rw[aq];omega)) ⟨e,?_⟩
 refine⟨y,_,I.lset (its':=j.eraseIdx k) D e ?_ (r.eraseIdx k) ?_,B,q⟩
 ·show j.toArray.eraseIdxIfInBounds k=(j.eraseIdx k).toArray;rw[List.eraseIdxIfInBounds_toArray]
 ·have:=bXd xs k
  omega
end
section
variable{prog:au}{w:aN}{A:bj}{E:ae->aj->Prop}{s:aj}
set_option maxRecDepth 100000 in
end
end L2
namespace Att
open PySem PySem.W PySem.Calls PyProof.Rows
theorem aJv{P:Params}{h:bu}:∀(ns:List Int) (vs:List ae),WellAll P h vs (ns.map WData.int)->iC vs ns:=by
 intro ns
 induction ns with
 |nil =>
  intro vs w;rw[fY] at w;cases w;exact .nil
 |cons n ns j =>
  intro vs w;rw[aU] at w;cases w with
  |cons a b =>
   cases a;exact .cons _ _ (j _ b)
theorem cXi{l:OpenLaw}{n:Nat}(hn:l.most=some n){P:Params}{h:bu}{args:List WData}{vals:List ae}
  (hpre:l.row.toRowW.claim.pre args=true) (hwl:WellAll P h vals args) :
  ∃a vs ns,vals=[c8 a]/\args=[WData.list (ns.map WData.int)]/\h.get? a=some {cls:=.type "list",data:=.seq vs.toArray}/\iC vs ns/\ns.length<=n:=by
 have D:WShape.hasAll [] args [.list .int]=true:=(pre_splitW hpre).1;have G:l.pre.holds [] {args:=args}=true:=(pre_splitW hpre).2;obtain⟨d,r,rfl,h1,h2⟩:=hasAllW_cons D;obtain rfl:=hasAllW_nil h2;obtain⟨xs,rfl,O⟩:=hasW_list h1;obtain⟨ns,rfl⟩:=items_int O;have hlen:ns.length<=n:=by
  unfold OpenLaw.pre at G;have B:(WTm.not (.lt (.lit (.int (n:Int))) (.len (.arg 0)))).holds [] {args:=[.list (ns.map .int)]}=true:=by
   have B:=(holds_andW G).1;rw[hn] at B;exact B
  have z:=condW_of B (w_not (w_lt w_lit (w_len_list (w_arg rfl))));rw[ah] at z;refine Nat.le_of_not_lt λq=>?_;have J:(n:Int)<((ns.length:Nat):Int):=by omega
  first
   |(rw[decide_eq_true J] at z;exact absurd z (by decide))
   |(simp at z;omega)
 cases hwl with
 |cons w1 w2 =>
  cases w2;cases w1 with
  |list L j=>exact⟨_,_,ns,rfl,rfl,L,aJv ns _ j,hlen⟩
theorem cXj(l:OpenLaw)(args:List WData):l.row.toRowW.claim.post args (.bool true) args=true :=
 postW_of (r:=l.row.toRowW) (X:=(true==true))
  (show WShape.has [] (.bool true) .bool=true by first|rfl|decide|simp[WShape.has,WShape.arms,WShape.armsAll])
  (show(WTm.eq .res (.lit (.bool true))).value [] {args:=args,res:=some (.bool true),after:=args}=some (.bool (true==true)) from w_eq_bool (w_res rfl) w_lit) rfl
end Att
namespace L2
open PySem PySem.Spec PyProof.Rows
theorem aJw:∀{vs:List ae}{ns:List Int},iC vs ns->Vals (ns.map V.int) vs
 |_,_,.nil=>.nil
 |_,_,.cons n t h=>.cons ⟨t,rfl⟩ (aJw h)
def Only(H:Hp):Prop:=∀b,H b=none\/∃o xs,H b=some (.frz o (.lst xs))
theorem dZ1{P:au}{w:aN}{K:ay}{mg mb:Str->Option ae}{CX:CXT}{k:Nat}{fa a:Addr}{fd:d8}{x:Str}{sp:Sp}{s₁:aj}{vs:List ae}{ns:List Int}
  (KX:K.In s₁.heap) (hns:s₁.heap.Ns bC mg) (hb:s₁.heap.Ns builtinsNs mb) (hbb:∀x:Str,x ≠ "__name__"->mb x=cI x) (hlim:s₁.heap.NoLimit) (hg:s₁.gens=#[])
  (ha:s₁.heap.get? a=some {cls:=.type "list",data:=.seq vs.toArray}) (hi:iC vs ns) (hl:ns.length<=sizeLine) (hr:Room k callerA)
  (F:∀base:bu,K.In base->base.Ns bC mg->FnOk P w K mg base CX k fa fd [x] sp) (hbind:∀(s:aj) (u:ae),BindsTo s fd ⟨[u],[]⟩ [(x,u)])
  (hsp:∀H:Hp,Only H->SqL K H a (ns.map V.int)->sp [.ref a] H (λv _=>v=.bl true) λ_ _ _=>False)
  (hCX:∀H e s',CX [] H s₁ (λ_ _ _=>False) e s'->False) :
  fB (aF P w) callerA (.call (.ref fa) ⟨[.ref a],[]⟩) (λr s'=>r=.ok (.ret (.bool true))/\OldK s₁.heap s'.heap/\s'.os=s₁.os/\ja s'.gens) s₁:=by
 have U:=aJw hi;have D:=hi.length;have core:∀H:Hp,Only H->SqL K H a (ns.map V.int)->HOk P w H s₁.heap->(∀b,H b≠none->b=a)->(H a≠none->K.lookup a=none) ->
   fB (aF P w) callerA (.call (.ref fa) ⟨[.ref a],[]⟩) (λr s'=>r=.ok (.ret (.bool true))/\OldK s₁.heap s'.heap/\s'.os=s₁.os/\ja s'.gens) s₁:=by
  intro H Y hS hok Z hK;have j:∀{b:Addr}{o:Obj},s₁.heap.get? b=some o->H b=none->(hidT s₁.heap H).get? b=some o:=λe n=>dQn e n;have L:∀{b:Addr}{o:Obj}{es:Array DictEntry}{ep:Nat},s₁.heap.get? b=some o->o.data=.dict es ep->H b=none:=λ{b o es ep} e d=>by
   cases q:H b with
   |none=>rfl
   |some u =>
    have O:b=a:=Z b (by rw[q];simp)
    subst O;rw[ha] at e;cases e;have d':Data.seq vs.toArray _=Data.dict es ep:=d;cases d'
  have B:∀ {b:Addr} {m:Str->Option ae},s₁.heap.Ns b m->(hidT s₁.heap H).Ns b m:=λ{b m} ⟨o,es,ep,e,d,r⟩=>⟨o,es,ep,j e (L e d),d,r⟩;have J:K.In (hidT s₁.heap H):=λb o e=>j (KX b o e) (by
   cases q:H b with
   |none=>rfl
   |some u =>
    have O:b=a:=Z b (by rw[q];simp)
    subst O;rw[hK (by rw[q];simp)] at e;cases e)
  have hM:Mod K mg (hidT s₁.heap H):=⟨J,B hns,⟨mb,B hb,hbb⟩,let ⟨mc,h1,h2⟩:=hlim;⟨mc,B h1,h2⟩⟩
  have e0:Env0 P w K mg (hidT s₁.heap H) callerA [] s₁ H:=⟨rfl,rfl,hM,λb o e=>dJs e,Nat.le_of_eq (cX7 _ _),trivial,λb hb=>absurd (show b∈([]:List Addr) from hb) (by simp),hok,.of_eq hg⟩
  refine iB ((F _ J (B hns)).run callerA [] s₁ H ⟨[.ref a],[]⟩ [.ref a] [.ref a] _ _ hr e0 (hbind s₁ (.ref a)) (.cons rfl .nil) (hsp H Y hS)) λr s' h=>?_;cases r with
  |error e=>exact(hCX H e s' h).elim
  |ok fl =>
   cases fl with
   |next=>exact eC h
   |brk=>exact eC h
   |cont=>exact eC h
   |ret u =>
    obtain⟨v,H',os,bare,un,G,r',q⟩:=h;have q':v=.bl true:=q;subst q';obtain rfl:u=kD true:=r';refine⟨rfl,OldK.of_keep λb o e=>?_,os,bare⟩;cases q:H b with
    |none=>exact un.keep b o e q (by intro z;exact absurd (show b∈([]:List Addr) from z) (by simp)) (by simp)
    |some u =>
     rcases Y b with z|⟨ob,xs,z⟩
     ·rw[q] at z;cases z
     ·have z2:=un.frzs b ob _ z;obtain⟨e1,_⟩:=hok b _ z;obtain⟨e2,_⟩:=G b _ z2;rw[e] at e1;cases e1;exact e2
 cases hk:K.lookup a with
 |some o =>
  have e:=KX a o hk;rw[ha] at e;cases e;refine core (λ_=>none) (λ_=>.inl rfl) (.inr ⟨_,vs.toArray,_,hk,rfl,rfl,rfl,by rw[aq,D];exact hl,by simpa using U⟩) (λb u z=>by have z':(none:Option HO)=some u:=z;cases z') (λb z=>absurd rfl z) λz=>absurd rfl z
 |none =>
  refine core (λb=>if b=a then some (.frz {cls:=.type "list",data:=.seq vs.toArray} (.lst (ns.map V.int))) else none) (λb=>?_) (.inl (.inr ⟨{cls:=.type "list",data:=.seq vs.toArray},if_pos rfl⟩)) (λb u z=>?_) (λb z=>?_) λ_=>hk
  ·by_cases hb:b=a
   ·exact .inr ⟨_,_,if_pos hb⟩
   ·exact .inl (if_neg hb)
  ·by_cases hb:b=a
   ·have z':=(if_pos hb).symm.trans z;cases z';subst hb;exact⟨ha,by rw[ah];exact hl,vs,_,U,ha⟩
   ·have z':=(if_neg hb).symm.trans z;cases z'
  ·by_cases hb:b=a
   ·exact hb
   ·exact absurd (if_neg hb) z
abbrev KOf{K:ay}{h:bu}(_:K.In h):ay:=K
def aXh(s:Stmt):Arguments:=match s with
 |.FunctionDef _ a _ _ _ _ _ _ _ _=>a
 |_=>{posonlyargs:=[],args:=[],vararg:=none,kwonlyargs:=[],kw_defaults:=[],kwarg:=none,defaults:=[]}
def aZj(s:Stmt):List Stmt:=match s with
 |.FunctionDef _ _ b _ _ _ _ _ _ _=>b
 |_=>[]
def aQ5(s:Stmt):Scope:=match s with
 |.FunctionDef _ _ _ _ _ _ sc _ _ _=>sc
 |_=>{kind:=.function,names:=[],isGenerator:=false,isCoroutine:=false}
abbrev CX0:CXT:=λ_ _ _ _ _ _=>False
abbrev E0:XK:=λ_ _ _=>False
theorem fXq{X:Cx}:cXc CX0 X E0:=λ_ _ _ _ _ _ _ h=>h.elim
structure Fun(K:ay)(x qual:Str)(st:Stmt)(f:Addr)(fd:d8):Prop where
 ex:∃(oc:ae) (od:Option Addr) (kV doc pm:ae) (an:Option Addr) (cdv ct:ae) (osl:Array (Option ae)),
  fd=ff x qual (aXh st) (aZj st) (aQ5 st) .none kV doc pm an cdv ct/\K.lookup f=some ⟨oc,od,.func fd,osl⟩/\gH K cdv qual=true
 kp:fO K (.ref f)=true
section
variable{P:au}{w:aN}{K:ay}{mg:Str->Option ae}{base:bu}
theorem Fun.ok{x qual:Str}{st:Stmt}{f:Addr}{fd:d8}{N ps:List Str}{k:Nat}{sp:Sp}(F:Fun K x qual st f fd)(S:FnScope N ps (aQ5 st))(len:∀vs H Q E,sp vs H Q E->vs.length=ps.length)
  (hbody:∀ (cdv:ae) (A:bj) (outer:List Env) (s:aj) (H:Hp) (vs:List V) (Q:VK) (E:XK),Room k (A.deeper (jp qual (aQ5 st) s.heap.objs.size f cdv))->sp vs H Q E ->
   ∃t,PSs (cxOf CX0 P w K mg base N qual (aQ5 st) f cdv A outer s H E).nox (aZj st) t/\t {nx:=λ_ H'=>Q .non H',rt:=Q} (start N vs) H):FnOk P w K mg base CX0 (k+1) f fd ps sp:=by
 obtain⟨oc,G,kV,doc,pm,an,cdv,ct,B,rfl,lk,z⟩:=F.ex;refine fXm lk z S len λA outer s H vs Q E D j=>?_;obtain⟨t,h,q⟩:=hbody cdv A outer s H vs Q E D j;exact⟨t,h.nox,q⟩
theorem Fun.binds{x qual:Str}{st:Stmt}{f:Addr}{fd:d8}{ps:List Str}(F:Fun K x qual st f fd)
  (h:∀(kV doc pm:ae) (an:Option Addr) (cdv ct:ae) (us:List ae),us.length=ps.length->bindArgs (ff x qual (aXh st) (aZj st) (aQ5 st) .none kV doc pm an cdv ct) ⟨us,[]⟩=pure (ps.zip us)):Binds K fd ps []:=by
 obtain⟨oc,z,kV,doc,pm,an,cdv,ct,j,rfl,lk,q⟩:=F.ex;exact .all (h kV doc pm an cdv ct)
theorem dXn{x qual:Str}{st:Stmt}{f:Addr}{oc:ae}{od an:Option Addr}{osl:Array (Option ae)}{kV doc pm cdv ct:ae}(l:K.lookup f=some ⟨oc,od,.func (ff x qual (aXh st) (aZj st) (aQ5 st) .none kV doc pm an cdv ct),osl⟩)
  (c:gH K cdv qual=true) (k:fO K (.ref f)=true):Fun K x qual st f (ff x qual (aXh st) (aZj st) (aQ5 st) .none kV doc pm an cdv ct):=⟨⟨oc,od,kV,doc,pm,an,cdv,ct,osl,rfl,l,c⟩,k⟩
end
theorem iteF{A B:Prop}(h:B):if false=true then A else B:=by
 rw[if_neg bz];exact h
theorem ite2{c A B:Prop}[Decidable c](h1:c->A)(h2:¬ c->B):if c then A else B:=by
 by_cases h:c
 ·rw[if_pos h];exact h1 h
 ·rw[if_neg h];exact h2 h
def Same(H H':Hp):Prop:=∀b o,H b=some o->H' b=some o
end L2
set_option maxHeartbeats 4000000
namespace L2
open PySem PySem.Spec PyProof.Rows
theorem aXy(env:Env):∀(names:List (Str×fD)) (acc:List (Str×Addr)),(∀x,(x,bg)∈names->∃c,env.cells.lookup x=some c)->(∀x c,acc.lookup x=some c->env.cells.lookup x=some c) ->
  ∃cl,(forIn names acc λ(y:Str×fD) (cs:List (Str×Addr))=>(if (y.2==bg)=true then do let a <- cellOf env y.1;pure (bM ((y.1,a)::cs)) else pure (bM cs):Sem (ForInStep (List (Str×Addr)))))=pure cl /\
   (∀x c,cl.lookup x=some c->env.cells.lookup x=some c)/\(∀x,((x,bg)∈names\/(acc.lookup x).isSome=true)->(cl.lookup x).isSome=true)
 | [],acc,_,q=>⟨acc,by rfl,q,λx h=>by
   rcases h with h|h
   ·cases h
   ·exact h⟩
 |(n,k)::rest,acc,z,q=>by
  by_cases hk:(k==bg)=true
  ·have B:k=bg:=by cases k <;> first|rfl|cases hk
   subst B;obtain⟨c,D⟩:=z n ak;obtain⟨cl,e,h1,h2⟩:=aXy env rest ((n,c)::acc) (λx hx=>z x (ao _ hx)) (λx d hx=>by
    simp only[da] at hx
    by_cases j:(x==n)=true
    ·rw[j] at hx;cases hx;rw[hJ j];exact D
    ·rw[fg.mpr j] at hx;exact q x d hx)
   refine⟨cl,?_,h1,λx hx=>h2 x ?_⟩
   ·rw[dP];have G:cellOf env n=pure c:=by unfold cellOf;rw[D]
    simp only[hk,if_true,G,jA];exact e
   ·rcases hx with hx|hx
    ·rcases aD.mp hx with hx|hx
     ·cases hx;right;simp
     ·exact .inl hx
    ·right
     simp only[da];cases x==n <;> simp[hx]
  ·obtain⟨cl,e,h1,h2⟩:=aXy env rest acc (λx hx=>z x (ao _ hx)) q;refine⟨cl,?_,h1,λx hx=>h2 x ?_⟩
   ·rw[dP];simp only[hk,if_false,jA,aV];exact e
   ·rcases hx with hx|hx
    ·rcases aD.mp hx with hx|hx
     ·cases hx;exact absurd rfl hk
     ·exact .inl hx
    ·exact .inr hx
inductive Cap(N:List Str)(sc:Scope):List Str->List (Option Nat)->Prop
 |nil:Cap N sc [] []
 |own {x xs is}:Cap N sc xs is->Cap N sc (x::xs) (none::is)
 |cap {x xs is i}:N[i]?=some x->(x,bg)∈sc.names->Cap N sc xs is->Cap N sc (x::xs) (some i::is)
theorem Cap.length{N:List Str}{sc:Scope}{xs:List Str}{is:List (Option Nat)}(c:Cap N sc xs is):xs.length=is.length:=by
 induction c with
 |nil=>rfl
 |own _ j=>simp[j]
 |cap _ _ _ j=>simp[j]
theorem Cap.get{N:List Str}{sc:Scope}{xs:List Str}{is:List (Option Nat)}(c:Cap N sc xs is):∀{j i:Nat}{x:Str},xs[j]?=some x->is[j]?=some (some i)->N[i]?=some x/\(x,bg)∈sc.names:=by
 induction c with
 |nil=>intro j i x h;simp at h
 |own _ q =>
  intro j i x h1 h2;cases j with
  |zero=>simp at h2
  |succ j=>exact q (by simpa using h1) (by simpa using h2)
 |cap z hf _ q =>
  intro j i x h1 h2;cases j with
  |zero=>simp at h1 h2;subst h1;subst h2;exact⟨z,hf⟩
  |succ j=>exact q (by simpa using h1) (by simpa using h2)
def capt(is:List (Option Nat))(σ:St):St:=is.map λo=>o.bind λi=>(σ[i]?).join
theorem aZy{sc:Scope}{env:Env}:∀{names:List (Str×fD)}{x:Str},(names.lookup x=some .cell\/names.lookup x=some .free)->((names.map λ(n,k)=>if (k==bg&&env.scope.kind ==.function&&env.kindOf n==some .cell) then (n,ie) else (n,k)).lookup x=some .cell\/(names.map λ(n,k)=>if (k==bg&&env.scope.kind ==.function&&env.kindOf n==some .cell) then (n,ie) else (n,k)).lookup x=some .free)
 |[],x,h=>by simp at h
 |(n,k)::r,x,h=>by
  simp only[aU]
  by_cases j:(k==bg&&env.scope.kind ==.function&&env.kindOf n==some .cell)=true
  ·rw[if_pos j];simp only[da] at h ⊢;cases hx:x==n with
   |true=>exact .inl rfl
   |false=>rw[hx] at h;exact aZy (sc:=sc) h
  ·rw[if_neg j];simp only[da] at h ⊢;cases hx:x==n with
   |true=>rw[hx] at h;exact h
   |false=>rw[hx] at h;exact aZy (sc:=sc) h
theorem aXz{sc:Scope}{env:Env}:∀{names:List (Str×fD)}{x:Str},((names.map λ(n,k)=>if (k==bg&&env.scope.kind ==.function&&env.kindOf n==some .cell) then (n,ie) else (n,k)).lookup x=some .cell\/(names.map λ(n,k)=>if (k==bg&&env.scope.kind ==.function&&env.kindOf n==some .cell) then (n,ie) else (n,k)).lookup x=some .free)->names.lookup x=some .cell\/names.lookup x=some .free
 |[],x,h=>by simp at h
 |(n,k)::r,x,h=>by
  simp only[aU] at h
  by_cases j:(k==bg&&env.scope.kind ==.function&&env.kindOf n==some .cell)=true
  ·rw[if_pos j] at h;simp only[da] at h ⊢;cases hx:x==n with
   |true =>
    right
    have:k==bg:=by
     simp only[aY] at j;exact j.1.1
    cases k <;> first|rfl|cases this
   |false=>rw[hx] at h;exact aXz (sc:=sc) h
  ·rw[if_neg j] at h;simp only[da] at h ⊢;cases hx:x==n with
   |true=>rw[hx] at h;exact h
   |false=>rw[hx] at h;exact aXz (sc:=sc) h
theorem aJx{α β:Type}[BEq α][LawfulBEq α]:∀{l:List (α×β)}{x:α}{k:β},l.lookup x=some k->(x,k)∈l
 |(n,j)::r,x,k,h=>by
  simp only[da] at h;cases hx:x==n with
  |true=>rw[hx] at h;cases h;rw[hJ hx];exact ak
  |false=>rw[hx] at h;exact ao _ (aJx h)
def PTs(X:Cx)(ifs:List Expr)(t:TT):Prop :=
 ∀(pins:List (Addr×Obj)) (s:aj) (σ:St) (H:Hp) (Q:Bool->Hp->Prop),Inv X pins σ H s->t σ H Q ->
  aE (aF X.prog X.w) X.A (forIn ifs true λc r=>if r=true then do let ok <- isTrue c X.env (eval c X.env);pure (bM ok) else pure (bM r)) (TP X pins σ Q) X.xe s
def tYes:TT:=λ_ H Q=>Q true H
theorem eQ9{X:Cx}:PTs X [] tYes:=λpins s σ H Q I h=>wpAny_tests_nil ⟨H,I,h⟩
theorem eQa{X:Cx}{c:Expr}{t:TT}(h:PT X c t):PTs X [c] t:=λpins s σ H Q I q=>wpAny_tests_one (h pins s σ H Q I q)
def Wk(σ0 σ2:St):Prop:=σ2.length=σ0.length/\∀(j:Nat) v,σ0[j]?=some (some v)->σ2[j]?=some (some v)
def okV(names outer:List (Str×fD)):Bool:=names.all λy=>match y.2 with
 |.free=>match outer.lookup y.1 with
  |some .cell=>true
  |some .free=>true
  |_=>false
 |_=>true
theorem dXo{names:List (Str×fD)}{sc:Scope}(h:okV names sc.names=true):∀y∈names,y.2=.free->Vis sc y.1/\sc.names.lookup y.1≠some .local:=λy j hf=>by
 have:=b7.mp h y j
 rw[hf] at this;unfold Vis;cases q:sc.names.lookup y.1 with
 |none=>rw[q] at this;cases this
 |some k=>rw[q] at this;cases k <;> first|(simp;done)|cases this
structure Bs(mg:Str->Option ae):Prop where
 len:mg "len"=none
 range:mg "range"=none
 sorted:mg "sorted"=none
 tuple:mg "tuple"=none
 list:mg "list"=none
 set:mg "set"=none
 sum:mg "sum"=none
 min:mg "min"=none
 max:mg "max"=none
 all:mg "all"=none
 any:mg "any"=none
 isinstance:mg "isinstance"=none
 int:mg "int"=none
 str:mg "str"=none
 bool:mg "bool"=none
 zip:mg "zip"=none
 enumerate:mg "enumerate"=none
theorem eJn:cI "len"=some (.builtin "len"):=by decide +kernel
theorem aXn:cI "sorted"=some (.builtin "sorted"):=by decide +kernel
theorem eJo:cI "sum"=some (.builtin "sum"):=by decide +kernel
theorem eJp:cI "all"=some (.builtin "all"):=by decide +kernel
theorem eJq:cI "any"=some (.builtin "any"):=by decide +kernel
theorem dZ2:cI "tuple"=some (.type "tuple"):=by decide +kernel
theorem eJr:cI "set"=some (.type "set"):=by decide +kernel
structure Df(P:au)(w:aN)(K:ay)(mg:Str->Option ae)(base:bu)(k:Nat)(x:Str)(ps:List Str)(sp:Sp):Prop where
 ex:∃(f:Addr) (fd:d8),FnOk P w K mg base CX0 k f fd ps sp/\Binds K fd ps []/\fO K (.ref f)=true/\mg x=some (.ref f)
theorem Df.mono{P:au}{w:aN}{K:ay}{mg:Str->Option ae}{base:bu}{j k:Nat}{x:Str}{ps:List Str}{sp:Sp}(D:Df P w K mg base j x ps sp)(h:j<=k):Df P w K mg base k x ps sp:=by
 obtain⟨f,fd,a,b,c,d⟩:=D.ex;exact⟨f,fd,a.mono h,b,c,d⟩
theorem dZ3{X:Cx}{k:Nat}{x:Str}{ps:List Str}{sp:Sp}{p pos:Pos}{e:Expr}{es:List Expr}{t:TA}(D:Df X.prog X.w X.K X.mg X.base k x ps sp)(hr:Room k X.A)(hg:Gl X x)(ha:PA X (e::es) t)
  (hdb:(x==("__debug__":Str))=false:=by decide) (he:aC (e::es) X.env=(false,eval e X.env)::aC es X.env:=by rfl) (hpl:(cO pos (aC es X.env)).any (·.1)=false:=by rfl) :
  PE X (.Call (.Name x p) (e::es) [] pos) (eJh sp [] E0 t):=by
 obtain⟨f,fd,F,q,j,hm⟩:=D.ex;exact eQ2 F hr hg hm j q .nil fXq ha hdb he hpl
structure Tx(K:ay)(mg:Str->Option ae)(x:Str)(st:Stmt):Prop where
 ex:∃(f:Addr) (fd:d8),Fun K x x st f fd/\mg x=some (.ref f)
theorem Tx.df{P:au}{w:aN}{K:ay}{mg:Str->Option ae}{base:bu}{k:Nat}{x:Str}{st:Stmt}{ps:List Str}{sp:Sp}(T:Tx K mg x st)
  (b:∀{f:Addr}{fd:d8},Fun K x x st f fd->Binds K fd ps []) (h:∀{f:Addr}{fd:d8},Fun K x x st f fd->FnOk P w K mg base CX0 k f fd ps sp):Df P w K mg base k x ps sp:=by
 obtain⟨f,fd,F,m⟩:=T.ex;exact⟨f,fd,h F,b F,F.kp,m⟩
theorem tx_mk{K:ay}{h:bu}{mg:Str->Option ae}{x:Str}{st:Stmt}{f:Addr}{od an:Option Addr}{sl:Array (Option ae)}{oc kV dc pm cd ct:ae}(X:K.In h)(G:h.Ns bC mg)
  (a:b8 K bC x=some (some (.ref f))) (l:K.lookup f=some ⟨oc,od,.func (ff x x (aXh st) (aZj st) (aQ5 st) .none kV dc pm an cd ct),sl⟩) (c:gH K cd x=true) (k:fO K (.ref f)=true):Tx K mg x st :=
 ⟨f,_,dXn (st:=st) l c k,PySem.W.mg_of X G a⟩
theorem bs_mk{K:ay}{h:bu}{mg:Str->Option ae}(X:K.In h)(G:h.Ns bC mg)(a:∀x∈(["len", "range", "sorted", "tuple", "list", "set", "sum", "min", "max", "all", "any", "isinstance", "int", "str", "bool", "zip", "enumerate"]:List Str),b8 K bC x=some none):Bs mg:=by
 have q:∀x∈(["len", "range", "sorted", "tuple", "list", "set", "sum", "min", "max", "all", "any", "isinstance", "int", "str", "bool", "zip", "enumerate"]:List Str),mg x=none:=λx j=>PySem.W.mg_none_of X G (a x j);constructor <;> exact q _ (by decide +kernel)
theorem bs_all{K:ay}(z1:b8 K bC "len"=some none)(z2:b8 K bC "range"=some none)(z3:b8 K bC "sorted"=some none)(z4:b8 K bC "tuple"=some none)(z5:b8 K bC "list"=some none)(z6:b8 K bC "set"=some none)
  (z7:b8 K bC "sum"=some none) (z8:b8 K bC "min"=some none) (z9:b8 K bC "max"=some none) (z10:b8 K bC "all"=some none) (z11:b8 K bC "any"=some none) (z12:b8 K bC "isinstance"=some none)
  (z13:b8 K bC "int"=some none) (z14:b8 K bC "str"=some none) (z15:b8 K bC "bool"=some none) (z16:b8 K bC "zip"=some none) (z17:b8 K bC "enumerate"=some none) :
  ∀x∈(["len", "range", "sorted", "tuple", "list", "set", "sum", "min", "max", "all", "any", "isinstance", "int", "str", "bool", "zip", "enumerate"]:List Str),b8 K bC x=some none:=λx j=>by
 simp only[aD,eP,or_false] at j;rcases j with rfl|rfl|rfl|rfl|rfl|rfl|rfl|rfl|rfl|rfl|rfl|rfl|rfl|rfl|rfl|rfl|rfl <;> assumption
end L2
set_option maxHeartbeats 1000000
namespace L2
open PySem PySem.Spec PyProof.Rows
def aJy(ifs:List Expr)(env:Env):Sem Bool:=forIn ifs true λc r=>if r=true then do let ok <- isTrue c env (eval c env);pure (bM ok) else pure (bM r)
def aQw(target:Expr)(ifs:List Expr)(at0:Pos)(m:Sem Unit)(c:Code)(it:ae)(env:Env):Sem Fin :=
 fX at0>>=λ_=>eV it>>=λr=>match r with
  |none=>pure (.done .next)
  |some v=>e8 target it v>>=λ_=>jn target env v>>=λ_=>aJy ifs env>>=λok=>if ok=true then m>>=λ_=>again c else again c
def emitOf(elt:Expr)(acc:ae)(env:Env):Sem Unit:=eval elt env>>=λx=>call (.builtin "list.append") [acc,x]>>=λ_=>pure ()
def innerOf(e:Expr)(iter:Expr)(acc:ae)(env:Env):Sem Unit:=eval iter env>>=λx=>fX iter.pos>>=λ_=>cq iter env x>>=λx=>fW [x] (jo x)>>=λit=>runOwn (.compStart e 1 it acc env) env>>=λ_=>pure ()
theorem aQf(elt target iter:Expr)(ifs:List Expr)(scope:Scope)(pos:Pos)(it acc:ae)(env:Env) :
  eS (.ListComp elt [⟨target,iter,ifs,0⟩] scope pos) 0 it acc env=aQw target ifs iter.pos (emitOf elt acc env) (.compLoop (.ListComp elt [⟨target,iter,ifs,0⟩] scope pos) 0 it acc env) it env:=by
 rw[compTurn_list];unfold aQw aJy emitOf;refine congrArg _ (funext λ_=>congrArg _ (funext λr=>?_));cases r with
 |none=>rfl
 |some v =>
  refine congrArg _ (funext λ_=>congrArg _ (funext λ_=>congrArg _ (funext λok=>?_)));cases ok <;> rfl
abbrev TB:=St->Hp->(Hp->Prop)->Prop
def PB(X:Cx)(m:Sem Unit)(t:TB):Prop :=
 ∀(pins:List (Addr×Obj)) (s:aj) (σ:St) (H:Hp) (N:Hp->Prop),Inv X pins σ H s->t σ H N ->
  aE (aF X.prog X.w) X.A m (λ_ s'=>∃σ' H',Inv X pins σ' H' s'/\Wk σ σ'/\N H') (λ_ _=>False) s
def eJs(D:Addr)(te:TE):TB:=fun σ H N=>te σ H λy H4=>∃zs,H4 D=some (.lst zs)/\zs.length<sizeLine/\N (upd H4 D (.lst (zs++[y])))
def bJ9(J:It)(σ0:St)(g:TG)(tt:TT)(tb:TB)(Q:Hp->Prop)(H:Hp):Prop :=
 ∃W:Nat->Nat->Hp->Prop,(∃m,W 0 m H)/\∀i m H,W i m H ->
  (J.stop i H/\Q H)\/(J.go i H/\∃ N:Hp->Prop,(∀ H',N H'->∃ m',m' < m/\W (i + 1) m' H') /\
   ∀x H',J.yld i H x H'->g x σ0 H' fun σ2 H2=>Wk σ0 σ2/\tt σ2 H2 λb H3=>if b=true then tb σ2 H3 N else N H3)
def dXp(wi:TI)(g:TG)(tt:TT)(tb:TB):TB:=fun σ H N=>wi σ H λJ H1=>bJ9 J σ g tt tb N H1
def cQ9(is:List (Option Nat))(wi:TI)(g:TG)(tt:TT)(tb:Addr->TB):TE:=fun σ H Q=>wi σ H λJ H1=>∀D,H1 D=none->bJ9 J (capt is σ) g tt (tb D) (Q (.ref D)) (upd H1 D (.lst []))
theorem Wk.refl(σ:St):Wk σ σ:=⟨rfl,λ_ _ h=>h⟩
theorem Wk.trans{a b c:St}(h:Wk a b)(k:Wk b c):Wk a c:=⟨k.1.trans h.1,λj v e=>k.2 j v (h.2 j v e)⟩
theorem cZl{σ:St}{i:Nat}{v:V}(h:σ[i]?=some none):Wk σ (σ.set i (some v)):=by
 refine⟨List.length_set,λj u e=>?_⟩
 by_cases q:j=i
 ·subst q;rw[h] at e;cases e
 ·rw[fN (cA q)];exact e
section
variable{X:Cx}
theorem aQl{elt:Expr}{te:TE}{D:Addr}(hxe:X.xe=λ_ _=>False)(he:PE X elt te):PB X (emitOf elt (.ref D) X.env) (eJs D te):=by
 intro pins s σ H N I h;unfold emitOf;have h1:=he pins s σ H _ I h;rw[hxe] at h1;refine aa (thn h1 λy s1 ⟨v,H1,J,q,zs,B,j,n⟩=>aa ?_);have h2:=bXe pins s1 σ H1 (.ref D) [v] (.ref D) [y] (λu L=>u=.non/\N L) J rfl (.cons q .nil) ⟨D,zs,v,rfl,rfl,B,j,rfl,n⟩;rw[hxe] at h2;exact thn h2 λ_ s2 ⟨u,H2,G,_,_,z⟩=>ad ⟨σ,H2,G,Wk.refl σ,z⟩
theorem bZ7{e target:Expr}{ifs:List Expr}{at0:Pos}{d:Nat}{acc:ae}{it:Addr}{m:Sem Unit}{g:TG}{tt:TT}{tb:TB}{J:It}{fp:List Addr}{tn:Nat->bu->Prop}{Q:Hp->Prop}{R:Result->aj->Prop}{pins:List (Addr×Obj)}{s:aj}{σ:St}{H:Hp}
  (hcalm:X.calm=true) (hxe:X.xe=λ_ _=>False) (hturn:eS e d (.ref it) acc X.env=aQw target ifs at0 m (.compLoop e d (.ref it) acc X.env) (.ref it) X.env)
  (hfr:(ig e d (.ref it) acc X.env).isFrame=false) (hA:X.A.under (ig e d (.ref it) acc X.env)=X.A)
  (T:Turn X.prog X.w X.K target J fp it tn) (hg:PG X target g) (ht:PTs X ifs tt) (hb:PB X m tb)
  (I:Inv X pins σ H s) (st:tn 0 s.heap) (f:∀b∈fp,FpOk X pins H b) (h:bJ9 J σ g tt tb Q H)
  (fin:∀H' s',Inv X pins σ H' s'->(∀b∈fp,FpOk X pins H' b)->Q H'->R (.ok .next) s') :
  fB (aF X.prog X.w) X.A (.compLoop e d (.ref it) acc X.env) R s:=by
 obtain⟨W,⟨m0,w0⟩,turn⟩:=h;have j:∀{H':Hp},(∀b∈fp,H' b=none)->∀b∈fp,FpOk X pins H' b:=λhn b hb=>⟨hn b hb,(f b hb).2⟩;refine codeAny_loop rfl (λn s'=>∃i H',Inv X pins σ H' s'/\tn i s'.heap/\(∀b∈fp,H' b=none)/\W i n H') ?_ m0 ⟨0,H,I,st,λb hb=>(f b hb).1,w0⟩;rintro n s3 ⟨i,H3,I3,O,D,w3⟩;have Z:(aF X.prog X.w).den (.compLoop e d (.ref it) acc X.env)=(eS e d (.ref it) acc X.env).onRaise (λx=>do noteFrame x X.env;theTreesLotGoes x):=by
  show(if (ig e d (.ref it) acc X.env).isFrame=true then _ else _)=_
  rw[hfr];rfl
 rw[Z,hturn,hA];refine wpAny_noted ?_;unfold aQw;refine aa (eK ?_);rcases turn i n H3 w3 with⟨stop,qn⟩|⟨go,N,hN,step⟩
 ·refine aa (thn (T.done X rfl rfl rfl hcalm i pins s3 σ H3 _ I3 (j D) O stop) λr s4 ⟨hr,I4⟩=>?_);subst hr;exact ad (fin H3 s4 I4 (j D) qn)
 ·refine aa (thn (T.item X rfl rfl rfl hcalm i pins s3 σ H3 _ I3 (j D) O go) λr s4 ⟨u,hr,h4⟩=>?_);subst hr;refine aa (thn h4 λ_ s5 ⟨x,H5,I5,r5,y5,B,fr5⟩=>?_);have I5':=I5.pinned (j fr5) (T.obj _ _ B);have q5:=hg _ s5 σ H5 x u _ I5' r5 (step x H5 y5);rw[hxe] at q5;refine aa (eB q5 (λ_ s6 ⟨σ6,H6,I6,L,q6⟩=>?_) λ_ _ z=>z.elim);have Y:=ht _ s6 σ6 H6 _ I6 q6;rw[hxe] at Y;refine aa (eB Y (λok s7 ⟨H7,I7,Y⟩=>?_) λ_ _ z=>z.elim);have q:∀{σ8:St}{G:Hp}{U:aj},Inv X (pins++bX8 fp s5.heap) σ8 G U->Wk σ σ8->N G->∃m,m<n/\∃i H',Inv X pins σ H' U/\tn i U.heap/\(∀b∈fp,H' b=none)/\W i m H':=λ{σ8 G U} I8 wk n8=>by
   obtain⟨m',hm,w8⟩:=hN G n8;refine⟨m',hm,i+1,G,I8.unpinned.weak wk.1.symm wk.2,T.keep _ _ _ B λb hb o e=>(I8.pin (b,o) (a7 _ (a7 _ (aX5 hb e)))).1,λb hb=>?_,w8⟩;obtain⟨o,e,_⟩:=T.obj _ _ B b hb;exact(I8.pin (b,o) (a7 _ (a7 _ (aX5 hb e)))).2.1
  cases ok with
  |false=>exact ad ⟨rfl,q I7 L Y⟩
  |true =>
   refine aa (eB (hb _ s7 σ6 H7 N I7 Y) (λ_ U ⟨σ8,G,I8,wk8,n8⟩=>?_) λ_ _ z=>z.elim);exact ad ⟨rfl,q I8 (L.trans wk8) n8⟩
end
section
variable{X:Cx}
theorem cXk{e target iter:Expr}{ifs:List Expr}{it acc:ae}{env:Env}{A:bj}{prog:au}{w:aN}{R:Result->aj->Prop}{s:aj}(hc:(clausesOf e)[1]?=some ⟨target,iter,ifs,0⟩)(hfr:(gL e 1 it acc env).isFrame=false)(hA:A.under (gL e 1 it acc env)=A)
  (h0:fB (aF prog w) A (.compLoop e 1 it acc env) R s)
  (h:aE (aF prog w) A (jo it) (λit' s'=>fB (aF prog w) A (.compLoop e 1 it' acc env) R s') (notedBy (aF prog w) A env λx s'=>R (.error x) s') s) :
  fB (aF prog w) A (.compStart e 1 it acc env) R s:=by
 refine iu ?_;have j:(aF prog w).den (.compStart e 1 it acc env)=(compStart e 1 it acc env).onRaise (λx=>do noteFrame x env;fX theWindowsPlace):=by
  show(if (gL e 1 it acc env).isFrame=true then _ else _)=_
  rw[hfr];rfl
 rw[j,hA];refine wpAny_notedAt ?_;unfold compStart;rw[hc];simp only[Option.elim,bne_self_eq_false,aV,if_false];refine aa (dl (wpAny_ite ?_))
 split
 ·first
   |exact aa (ad (ad (jB rfl h0)))
   |exact ad (jB rfl h0)
 ·refine aa (dG ?_);refine aa (eK (aa (eB h (λit' s' h'=>ad (jB rfl h')) λ_ _ x=>x)))
theorem dZ4{e t2 i2:Expr}{ifs2:List Expr}{acc:ae}{m:ae->Sem Unit}{wi:TI}{g:TG}{tt:TT}{tb:TB}(hcalm:X.calm=true)(hxe:X.xe=λ_ _=>False)(hc:(clausesOf e)[1]?=some ⟨t2,i2,ifs2,0⟩)
  (hturn:∀it,eS e 1 (.ref it) acc X.env=aQw t2 ifs2 i2.pos (m acc) (.compLoop e 1 (.ref it) acc X.env) (.ref it) X.env)
  (hi:PI X t2 i2 wi) (hg:PG X t2 g) (ht:PTs X ifs2 tt) (hb:PB X (m acc) tb)
  (hs:∀x,cq i2 X.env x=pure x) (hfr:∀it,(gL e 1 it acc X.env).isFrame=false) (hfr2:∀it,(ig e 1 it acc X.env).isFrame=false)
  (hA:∀it,X.A.under (gL e 1 it acc X.env)=X.A) (hA2:∀it,X.A.under (ig e 1 it acc X.env)=X.A) :
  PB X (innerOf e i2 acc X.env) (dXp wi g tt tb):=by
 intro pins s σ H N I h;unfold innerOf;have h1:=hi pins s σ H _ I h;rw[hxe] at h1;refine aa (thn h1 λv s1 z=>aa (eK (aa (jd (hs v) (aa (bq (thn z λB s2 q=>?_)))))));obtain⟨it,fp,L,J,H2,rfl,D,T,j,f2,q⟩:=q;refine aa (wpAny_runOwn ?_);have loop:fB (aF X.prog X.w) X.A (.compLoop e 1 (.ref it) acc X.env) (λr s'=>match r with
   |.ok f=>aE (aF X.prog X.w) X.A (pure ()) (λ_ s'=>∃σ' H',Inv X pins σ' H' s'/\Wk σ σ'/\N H') (λ_ _=>False) s'
   |.error x=>cameBackBy (aF X.prog X.w) X.A X.env (λ_ _=>False) x s') s2 :=
  bZ7 hcalm hxe (hturn it) (hfr2 _) (hA2 _) T hg ht hb D j f2 q λH' s' G _ n=>ad ⟨σ,H',G,Wk.refl σ,n⟩
 exact cXk hc (hfr _) (hA _) loop (T.self _ 0 _ _ _ j loop)
end
theorem aJ0(env:Env):∀(names:List (Str×fD)) (acc:List (Str×Addr)),(∀x,(x,bg)∈names->∃c,env.cells.lookup x=some c) ->
  ∃cl,(forIn names acc λ(y:Str×fD) (cs:List (Str×Addr))=>(if (y.2==bg)=true then do let a <- cellOf env y.1;pure (bM ((y.1,a)::cs)) else pure (bM cs):Sem (ForInStep (List (Str×Addr)))))=pure cl /\
   (∀x c,cl.lookup x=some c->(x,bg)∈names\/acc.lookup x=some c)
 |[],acc,_=>⟨acc,by rfl,λ_ _ h=>.inr h⟩
 |(n,k)::rest,acc,q=>by
  by_cases hk:(k==bg)=true
  ·have B:k=bg:=by cases k <;> first|rfl|cases hk
   subst B;obtain⟨c,D⟩:=q n ak;obtain⟨cl,e,h1⟩:=aJ0 env rest ((n,c)::acc) (λx j=>q x (ao _ j));refine⟨cl,?_,λx d j=>?_⟩
   ·rw[dP];have G:cellOf env n=pure c:=by unfold cellOf;rw[D]
    simp only[hk,if_true,G,jA];exact e
   ·rcases h1 x d j with z|z
    ·exact .inl (ao _ z)
    ·simp only[da] at z;cases hxn:x==n with
     |true=>rw[hJ hxn];exact .inl ak
     |false=>rw[hxn] at z;exact .inr z
  ·obtain⟨cl,e,h1⟩:=aJ0 env rest acc (λx j=>q x (ao _ j));refine⟨cl,?_,λx d j=>?_⟩
   ·rw[dP];simp only[hk,if_false,jA,aV];exact e
   ·rcases h1 x d j with z|z
    ·exact .inl (ao _ z)
    ·exact .inr z
theorem aXe{env:Env}{scope:Scope}(hn:∀x,(x,bg)∈scope.names->∃c,env.cells.lookup x=some c) :
  ∃cl,closureFor scope env=pure cl/\(∀x c,cl.lookup x=some c->env.cells.lookup x=some c)/\(∀x,(x,bg)∈scope.names->(cl.lookup x).isSome=true)/\∀x c,cl.lookup x=some c->(x,bg)∈scope.names:=by
 obtain⟨cl,e,h1,h2⟩:=aXy env scope.names [] hn (λx c h=>by cases h)
 obtain⟨cl',G,B⟩:=aJ0 env scope.names [] hn;have D:cl=cl':=by
  have:=e.symm.trans G
  injection this
 subst D;refine⟨cl,?_,h1,λx j=>h2 x (.inl j),λx c j=>(B x c j).elim id λz=>by cases z⟩
 have q:closureFor scope env=(forIn scope.names ([]:List (Str×Addr)) λ(y:Str×fD) (cs:List (Str×Addr))=>(if (y.2==bg)=true then do let a <- cellOf env y.1;pure (bM ((y.1,a)::cs)) else pure (bM cs):Sem (ForInStep (List (Str×Addr))))):=by
  unfold closureFor;exact bind_pure _
 rw[q,e]
def ocl(oc:Option Str)(c:Addr)(cl:List (Str×Addr)):List (Str×Addr):=match oc with
 |none=>cl
 |some x=>(x,c)::cl
def ohp(oc:Option Str)(h:bu):bu:=match oc with
 |none=>h
 |some _=>h.push {cls:=.type "cell",data:=.cell none}
theorem aJz{oc:Option Str}{c d:Addr}{cl:List (Str×Addr)}{x:Str}(h:(ocl oc c cl).lookup x=some d):(oc=some x/\d=c)\/cl.lookup x=some d:=by
 cases oc with
 |none=>exact .inr h
 |some z =>
  unfold ocl at h;simp only[da] at h;cases hx:x==z with
  |true=>rw[hx] at h;cases h;rw[hJ hx];exact .inl ⟨rfl,rfl⟩
  |false=>rw[hx] at h;exact .inr h
theorem cQa{oc:Option Str}{c:Addr}{cl:List (Str×Addr)}{x:Str}(h:(cl.lookup x).isSome=true):∃d,(ocl oc c cl).lookup x=some d:=by
 cases oc with
 |none=>exact cj.mp h
 |some z =>
  unfold ocl;simp only[da];cases hx:x==z with
  |true=>exact⟨_,rfl⟩
  |false=>exact cj.mp h
theorem eQb{c:Addr}{cl:List (Str×Addr)}{x:Str}:(ocl (some x) c cl).lookup x=some c:=by unfold ocl;simp
theorem aJm{oc:Option Str}{h:bu}{b:Addr}{o:Obj}(e:h.get? b=some o):(ohp oc h).get? b=some o:=by
 cases oc with
 |none=>exact e
 |some _=>exact ag _ e
def aQa(X:Cx)(N':List Str)(scope:Scope)(cl:List (Str×Addr))(C:Addr)(fp:List Addr)(s:aj)(H:Hp)(oc:Option Str):Cx :=
 {X with N:=N',s₀:=s,H₀:=H,env:=gM scope cl C X.env,outer:=X.stack,ex:=fp,fn:=λx=>decide (oc=some x),pn:=[],xe:=λ_ _=>False}
theorem cXl{scope:Scope}{env:Env}{cl:List (Str×Addr)}{M:Model}{A:bj}{E:ae->aj->Prop}{s:aj}{Q:Env->aj->Prop}
  (h:Q {scope:=scope,locals:=s.heap.objs.size,globals:=env.globals,cells:=e9 (s.heap.objs.size+1) scope.names cl,qual:=env.qual,func:=none,code:=env.code,frame:=env.frame,builtins:=env.builtins} {s with heap:=f6 (s.heap.push {cls:=.type "dict",data:=.dict #[]}) scope.names}) :
  aE M A (newFunctionEnv scope env.globals cl [] env.qual none .none (some env)) Q E s:=by
 unfold newFunctionEnv;simp only[Option.isSome_some,if_true];refine aa (wpAny_alloc ?_);refine aa (wpAny_layCells _ (λname kind cells=>by cases hkc:kind==ie <;> simp[hkc]) _ _ _ _ ?_)
 rw[show({s with heap:=s.heap.push {cls:=.type "dict",data:=.dict #[]}}:aj).heap.objs.size=s.heap.objs.size+1 from cV ..]
 exact aa (ad (ad h))
section
variable{X:Cx}{pins:List (Addr×Obj)}{σ:St}{H H':Hp}{s s2:aj}
theorem bQv{N':List Str}{scope:Scope}{cl:List (Str×Addr)}{fp:List Addr}{oc:Option Str}(I:Inv X pins σ H s)(hf:∀b∈fp,FpOk X pins H b)(hfl:∀b∈fp,b<s.heap.objs.size)(hkind:scope.kind=.function)
  (c1:∀x c,cl.lookup x=some c->X.env.cells.lookup x=some c) (c2:∀x,(x,bg)∈scope.names->(cl.lookup x).isSome=true) (hcell:∀y∈scope.names,y.2=.cell->oc=some y.1) (hun:∀x,oc=some x->cl.lookup x=none) :
  (aQa X N' scope (ocl oc (s.heap.objs.size+1) cl) s.heap.objs.size fp s H oc).Ok where
 mod:=I.ok.mod
 kind:=hkind
 glob:=I.ok.glob
 blt:=I.ok.blt
 above:=Nat.le_refl _
 inj:=λx y c h1 h2=>by
  have old:∀z,cl.lookup z=some (s.heap.objs.size+1)->False:=λz e=>by
   obtain⟨v,q⟩:=I.cell z _ (c1 z _ e);exact absurd (show s.heap.objs.size+1<s.heap.objs.size from q.lt) (Nat.not_lt.mpr (Nat.le_succ _))
  rcases aJz h1 with⟨G,rfl⟩|G <;> rcases aJz h2 with⟨D,e⟩|D
  ·rw[G] at D;exact aO D
  ·exact(old y D).elim
  ·subst e;exact(old x G).elim
  ·exact I.ok.inj x y c (c1 x c G) (c1 y c D)
 has:=λx J=>by
  have j:scope.names.lookup x=some .cell\/scope.names.lookup x=some .free:=aXz (sc:=scope) J;rcases j with j|j
  ·have e:=hcell _ (aJx j) rfl;subst e;exact⟨_,eQb⟩
  ·exact cQa (c2 x (aJx j))
 cab:=λx c h L=>by
  have h':oc=some x:=of_decide_eq_true h;rcases aJz L with⟨_,rfl⟩|e
  ·exact Nat.le_succ _
  ·rw[hun x h'] at e;cases e
 hd:=I.ok.hd
 frames:=I.ok.frames
 gd:=I.ok.gd
 stk:=.inl rfl
 exf:=λb B=>⟨Nat.ne_of_lt (hfl b B),λx c e=>by
  rcases aJz e with⟨_,rfl⟩|e
  ·intro z;exact absurd (show s.heap.objs.size+1<s.heap.objs.size from z▸hfl b B) (Nat.not_lt.mpr (Nat.le_succ _))
  ·exact(hf b B).2.2.2.2.1 x c (c1 x c e)⟩
 bs:=I.bs
 bsz:=Nat.le_trans I.ok.bsz I.sz
 noex:=λb o e B=>by
  rcases(hf b B).2.2.2.1 with z|z
  ·exact I.ok.noex b o e z
  ·have q:=I.ok.bs b o e;exact absurd (Nat.lt_of_lt_of_le (aA q.1) z) (Nat.lt_irrefl _)
 exfs:=λb B z=>by
  rcases aD.mp (I.stkSub b z) with e|e
  ·exact(hf b B).2.1 e
  ·exact(hf b B).2.2.1 e
 funs:=I.stack
 frf:=I.stkFree
theorem bQ0{N':List Str}{is:List (Option Nat)}{scope:Scope}{cl:List (Str×Addr)}{fp:List Addr}{oc:Option Str}(I:Inv X pins σ H s)(ok:(aQa X N' scope (ocl oc (s.heap.objs.size+1) cl) s.heap.objs.size fp s H oc).Ok)(hN:X.N.Nodup)
  (c1:∀x c,cl.lookup x=some c->X.env.cells.lookup x=some c) (c2:∀x,(x,bg)∈scope.names->(cl.lookup x).isSome=true) (hu:∀x,(x,bg)∈scope.names->scope.names.lookup x=some .free) (cp:Cap X.N scope N' is)
  (hV:∀x,(x,bg)∈scope.names->Vis X.env.scope x/\X.env.scope.names.lookup x≠some .local) (hun:∀x,oc=some x->cl.lookup x=none) :
  Inv (aQa X N' scope (ocl oc (s.heap.objs.size+1) cl) s.heap.objs.size fp s H oc) [] (capt is σ) H {s with heap:=ohp oc (s.heap.push {cls:=.type "dict",data:=.dict #[]})}:=by
 have kp:∀b o,s.heap.get? b=some o->(ohp oc (s.heap.push {cls:=.type "dict",data:=.dict #[]})).get? b=some o:=λb o e=>aJm (ag _ e);exact {
 ok:=ok
 os:=rfl
 bare:=I.bare
 base:=Un.kept kp
 loc:=by
  refine⟨_,(bu.Ns.new s.heap (.type "dict")).keeps λb o e=>aJm e,λj x v e1 e2 e3=>?_⟩;have Y:N'[j]?=some x:=e1;unfold capt at e2;rw[aL] at e2;cases hi:is[j]? with
  |none=>rw[hi] at e2;cases e2
  |some o =>
   rw[hi] at e2;cases o with
   |none=>cases e2
   |some i =>
    obtain⟨hx,B⟩:=cp.get Y hi;have e2':(σ[i]?).join=some v:=aO e2;have e4:σ[i]?=some (some v):=by
     cases q:σ[i]? with
     |none=>rw[q] at e2';cases e2'
     |some z=>rw[q] at e2';cases z with
      |none=>cases e2'
      |some z=>cases e2';rfl
    obtain⟨m,hn,hl⟩:=I.loc;obtain⟨G,U⟩:=hV x B;obtain⟨u,r,l⟩:=hl i x v hx e4 G;refine⟨u,r,.inr ⟨aZy (sc:=scope) (.inr (hu x B)),?_⟩⟩;rcases l with⟨k,_⟩|⟨k,c,e,z⟩
    ·exact absurd k U
    ·obtain⟨J,Z⟩:=cQa (oc:=oc) (c:=s.heap.objs.size+1) (c2 x B);have ee:J=c:=by
      rcases aJz Z with⟨L,_⟩|L
      ·have:=c2 x B;rw[hun x L] at this;cases this
      ·have:=c1 x J L;rw[e] at this;exact(aO this).symm
     subst ee;obtain⟨D,O,hd⟩:=z;exact⟨J,Z,D,kp J D O,hd⟩
 cell:=λx c e=>by
  rcases aJz (show(ocl oc (s.heap.objs.size+1) cl).lookup x=some c from e) with⟨z,rfl⟩|e
  ·subst z;refine⟨none,{cls:=.type "cell",data:=.cell none},?_,rfl⟩;show((s.heap.push _).push _).get? _=_;rw[<- cV s.heap {cls:=.type "dict",data:=.dict #[]}];exact ar _ rfl
  ·obtain⟨v,o,ho,hd⟩:=I.cell x c (c1 x c e);exact⟨v,o,kp c o ho,hd⟩
 free:=I.hok.fresh (Nat.le_refl _)
 freeC:=λx c e=>by
  rcases aJz (show(ocl oc (s.heap.objs.size+1) cl).lookup x=some c from e) with⟨z,rfl⟩|e
  ·exact I.hok.fresh (Nat.le_succ _)
  ·exact I.freeC x c (c1 x c e)
 pin:=λp hp=>absurd (show p∈([]:List (Addr×Obj)) from hp) (by simp)
 hok:=I.hok.kept kp
 len:=by
  show(capt is σ).length=N'.length;unfold capt;rw[ah,cp.length]}
def FrC(X:Cx)(pins:List (Addr×Obj))(C:Addr)(H:Hp):Prop:=H C=none/\C≠X.env.locals/\X.s₀.heap.objs.size<=C/\(∀x c,X.env.cells.lookup x=some c->c≠C)/\∀p∈X.pn++pins,p.1≠C
theorem FrC.gone{C:Addr}{h':bu}(f:FrC X pins C H)(I:Inv X pins σ H s)(sb:c9 C s.heap h'):Inv X pins σ H {s with heap:=h'} :=
 I.turned (t':=s.toks) (λb o j e=>(sb.2 b j).trans e) f.1 f.2.1 (.inr f.2.2.1) f.2.2.2.1 f.2.2.2.2
theorem comp_gen{elt target iter:Expr}{ifs:List Expr}{gs:List fk}{scope:Scope}{pos:Pos}{N':List Str}{is:List (Option Nat)}{wi:TI}{g:TG}{tt:TT}{tb:Addr->TB}{oc:Option Str}{m:ae->Env->Sem Unit}(hcalm:X.calm=true)(hN:X.N.Nodup)
  (hturn:∀it acc env,eS (.ListComp elt (⟨target,iter,ifs,0⟩::gs) scope pos) 0 it acc env=aQw target ifs iter.pos (m acc env) (.compLoop (.ListComp elt (⟨target,iter,ifs,0⟩::gs) scope pos) 0 it acc env) it env)
  (cp:Cap X.N scope N' is) (hi:PI X target iter wi)
  (hg:∀cl C fp s H,PG (aQa X N' scope cl C fp s H oc) target g) (ht:∀cl C fp s H,PTs (aQa X N' scope cl C fp s H oc) ifs tt) (hb:∀cl C fp s H D,PB (aQa X N' scope cl C fp s H oc) (m (.ref D) (gM scope cl C X.env)) (tb D))
  (hcf:∀n acc,e9 n scope.names acc=ocl oc n acc) (hpc:∀h,f6 h scope.names=ohp oc h)
  (hkind:scope.kind=.function) (hcell:∀y∈scope.names,y.2=.cell->oc=some y.1)
  (hu:∀y∈scope.names,scope.names.lookup y.1=some y.2) (hoc:∀x,oc=some x->scope.names.lookup x=some .cell)
  (hVb:okV scope.names X.env.scope.names=true)
  (hs:∀x,cq iter X.env x=pure x)
  {use:Option (ae->Sem Unit)}{Q:VK}{Qv:ae->aj->Prop}(I:Inv X pins σ H s) (h:cQ9 is wi g tt tb σ H Q)
  (fin:∀D C H5 s6,Inv X pins σ H5 s6->(∃m,s6.heap.Ns C m)->FrC X pins C H5->Q (.ref D) H5->compPost (aF X.prog X.w) X.A X.xe use Qv (.ref D) C (.ok .next) s6) :
  aE (aF X.prog X.w) X.A (comprehension (.ListComp elt (⟨target,iter,ifs,0⟩::gs) scope pos) scope X.env (firstIterPos (⟨target,iter,ifs,0⟩::gs) pos) (newList []) (firstAsync (⟨target,iter,ifs,0⟩::gs)) (firstIter (⟨target,iter,ifs,0⟩::gs) X.env) use) Qv X.xe s:=by
 have hV:=dXo hVb;have hV':∀x,(x,bg)∈scope.names->Vis X.env.scope x/\X.env.scope.names.lookup x≠some .local:=λx j=>hV (x,.free) j rfl;have hu':∀x,(x,bg)∈scope.names->scope.names.lookup x=some .free:=λx j=>hu (x,.free) j;have B:∀x∈scope.names,x.2=.local->scope.names.lookup x.1=some .local:=λx j hl=>by rw[hu x j,hl]
 obtain⟨cl,L,c1,c2,c3⟩:=aXe (env:=X.env) (scope:=scope) λx j=>I.ok.has x (by
  obtain⟨v,n⟩:=hV' x j;rcases v with v|v|v
  ·exact absurd v n
  ·exact .inl v
  ·exact .inr v)
 have hun:∀x,oc=some x->cl.lookup x=none:=λx j=>by
  cases e:cl.lookup x with
  |none=>rfl
  |some c =>
   have:=hu' x (c3 x c e)
   rw[hoc x j] at this;cases this
 refine wpAny_comprehension_free (use:=use) rfl hs L hkind B (thn (hi pins s σ H _ I h) λv s1 h1=>thn h1 λitv s2 h2=>?_);obtain⟨it,fp,tn,J,H2,rfl,I2,T,st2,f2,q2⟩:=h2;refine bA ?_;have hD:H2 s2.heap.objs.size=none:=I2.hok.fresh (Nat.le_refl _);have fpl:∀b∈fp,b<s2.heap.objs.size:=λb hb=>by obtain⟨o,e,_⟩:=T.obj _ _ st2 b hb;exact aA e
 have O:Inv X pins σ (upd H2 s2.heap.objs.size (.lst [])) {s2 with heap:=s2.heap.push {cls:=.type "list",dict:=none,data:=.seq ([]:List ae).toArray}} :=
  I2.laid (t':=s2.toks) (λb u e=>ag _ e) (Nat.le_refl _) ⟨Nat.zero_le _,[],0,.nil,ar _ rfl⟩
 have st3:tn 0 (s2.heap.push {cls:=.type "list",dict:=none,data:=.seq ([]:List ae).toArray}):=T.keep _ _ _ st2 λb hb o e=>ag _ e;have U:∀b∈fp,FpOk X pins (upd H2 s2.heap.objs.size (.lst [])) b:=λb hb=>⟨by rw[upd_ne (Nat.ne_of_lt (fpl b hb))];exact(f2 b hb).1,(f2 b hb).2⟩
 have G:∀b∈fp,b<(s2.heap.push {cls:=.type "list",dict:=none,data:=.seq ([]:List ae).toArray}).objs.size:=λb hb=>by rw[cV];exact Nat.lt_succ_of_lt (fpl b hb)
 have q3:=q2 _ hD;generalize hDe:s2.heap.objs.size=D at *
 generalize hs3:({s2 with heap:=s2.heap.push {cls:=.type "list",dict:=none,data:=.seq ([]:List ae).toArray}}:aj)=s3 at *
 have hsh:s3.heap=s2.heap.push {cls:=.type "list",dict:=none,data:=.seq ([]:List ae).toArray}:=by rw[<- hs3]
 rw[<- hsh] at st3 G;have ok:=bQv (N':=N') (cl:=cl) (oc:=oc) O U G hkind c1 c2 hcell hun;have I4:=bQ0 O ok hN c1 c2 hu' cp hV' hun;refine cXl ?_;rw[hcf,hpc];have kp:∀b o,s3.heap.get? b=some o->(ohp oc (s3.heap.push {cls:=.type "dict",data:=.dict #[]})).get? b=some o:=λb o e=>aJm (ag _ e);have Z:tn 0 (ohp oc (s3.heap.push {cls:=.type "dict",data:=.dict #[]})):=T.keep _ _ _ st3 λb _ o e=>kp b o e;have f4:∀b∈fp,FpOk (aQa X N' scope (ocl oc (s3.heap.objs.size+1) cl) s3.heap.objs.size fp s3 (upd H2 D (.lst [])) oc) [] (upd H2 D (.lst [])) b:=λb hb =>
  ⟨(U b hb).1,(ok.exf b hb).1,ok.exfs b hb,.inl hb,(ok.exf b hb).2,λp hp=>absurd (show p∈([]:List (Addr×Obj)) from hp) (by simp)⟩
 have loop:=bZ7 (X:=aQa X N' scope (ocl oc (s3.heap.objs.size+1) cl) s3.heap.objs.size fp s3 (upd H2 D (.lst [])) oc) (e:=.ListComp elt (⟨target,iter,ifs,0⟩::gs) scope pos) (d:=0) (acc:=.ref D)
  (R:=compPost (aF X.prog X.w) X.A X.xe use Qv (.ref D) s3.heap.objs.size) hcalm rfl (hturn _ _ _) rfl rfl T (hg _ _ _ _ _) (ht _ _ _ _ _) (hb _ _ _ _ _ D) I4 Z f4 q3 (by
   intro H5 s6 Y _ qn;obtain⟨m6,n6,_⟩:=id Y.loc;have un:Un (frs X.stack) fp (upd H2 D (.lst [])) H5 s3.heap s6.heap:=Y.base;have hok':HOk X.prog X.w H5 s6.heap:=Y.hok;refine fin D s3.heap.objs.size H5 s6 (O.call' (s':=s6) (ch:=fp) Y.os un hok' Y.bare λb hb=>⟨(U b hb).2.2.2.1,(U b hb).2.1,(U b hb).2.2.2.2.1,(U b hb).2.2.2.2.2⟩) ⟨m6,n6⟩ ⟨Y.free,Nat.ne_of_gt O.lt,O.sz,λx c e z=>?_,λp hp z=>?_⟩ qn
   ·obtain⟨v,q⟩:=O.cell x c e;exact absurd q.lt (by rw[z];exact Nat.lt_irrefl _)
   ·exact absurd (aA (O.pin p hp).1) (by rw[z];exact Nat.lt_irrefl _))
 exact codeAny_compStart_list loop (T.self _ 0 _ _ _ Z loop)
theorem dZ5{elt target iter:Expr}{ifs:List Expr}{gs:List fk}{scope:Scope}{pos:Pos}{N':List Str}{is:List (Option Nat)}{wi:TI}{g:TG}{tt:TT}{tb:Addr->TB}{oc:Option Str}{m:ae->Env->Sem Unit}(hcalm:X.calm=true)(hN:X.N.Nodup)
  (hturn:∀it acc env,eS (.ListComp elt (⟨target,iter,ifs,0⟩::gs) scope pos) 0 it acc env=aQw target ifs iter.pos (m acc env) (.compLoop (.ListComp elt (⟨target,iter,ifs,0⟩::gs) scope pos) 0 it acc env) it env)
  (cp:Cap X.N scope N' is) (hi:PI X target iter wi)
  (hg:∀cl C fp s H,PG (aQa X N' scope cl C fp s H oc) target g) (ht:∀cl C fp s H,PTs (aQa X N' scope cl C fp s H oc) ifs tt) (hb:∀cl C fp s H D,PB (aQa X N' scope cl C fp s H oc) (m (.ref D) (gM scope cl C X.env)) (tb D))
  (hcf:∀n acc,e9 n scope.names acc=ocl oc n acc:=by intro _ _;rfl) (hpc:∀h,f6 h scope.names=ohp oc h:=by intro _;rfl)
  (hkind:scope.kind=.function:=by rfl) (hcell:∀y∈scope.names,y.2=.cell->oc=some y.1:=by decide +kernel)
  (hu:∀y∈scope.names,scope.names.lookup y.1=some y.2:=by decide +kernel) (hoc:∀x,oc=some x->scope.names.lookup x=some .cell:=by intro x h;cases h <;> rfl)
  (hVb:okV scope.names X.env.scope.names=true:=by first|rfl|kernel_rfl)
  (hs:∀x,cq iter X.env x=pure x:=by intro _;rfl) :
  PE X (.ListComp elt (⟨target,iter,ifs,0⟩::gs) scope pos) (cQ9 is wi g tt tb):=by
 intro pins s σ H Q I h;rw[eval_ListComp];refine comp_gen hcalm hN hturn cp hi hg ht hb hcf hpc hkind hcell hu hoc hVb hs I h λD C G J B ⟨m,n⟩ z q=>?_;exact⟨m,n,λh' j=>⟨.ref D,G,z.gone B j,rfl,q⟩⟩
theorem eQc{x:Str}{i:Nat}{pos' spos:Pos}(hix:X.N[i]?=some x)(hx:Loc X.env.scope x){elt target iter:Expr}{ifs:List Expr}{gs:List fk}{scope:Scope}{pos:Pos}{N':List Str}{is:List (Option Nat)}{wi:TI}{g:TG}{tt:TT}{tb:Addr->TB}{oc:Option Str}{m:ae->Env->Sem Unit}(hcalm:X.calm=true)(hN:X.N.Nodup)
  (hturn:∀it acc env,eS (.ListComp elt (⟨target,iter,ifs,0⟩::gs) scope pos) 0 it acc env=aQw target ifs iter.pos (m acc env) (.compLoop (.ListComp elt (⟨target,iter,ifs,0⟩::gs) scope pos) 0 it acc env) it env)
  (cp:Cap X.N scope N' is) (hi:PI X target iter wi)
  (hg:∀cl C fp s H,PG (aQa X N' scope cl C fp s H oc) target g) (ht:∀cl C fp s H,PTs (aQa X N' scope cl C fp s H oc) ifs tt) (hb:∀cl C fp s H D,PB (aQa X N' scope cl C fp s H oc) (m (.ref D) (gM scope cl C X.env)) (tb D))
  (hcf:∀n acc,e9 n scope.names acc=ocl oc n acc:=by intro _ _;rfl) (hpc:∀h,f6 h scope.names=ohp oc h:=by intro _;rfl)
  (hkind:scope.kind=.function:=by rfl) (hcell:∀y∈scope.names,y.2=.cell->oc=some y.1:=by decide +kernel)
  (hu:∀y∈scope.names,scope.names.lookup y.1=some y.2:=by decide +kernel) (hoc:∀x,oc=some x->scope.names.lookup x=some .cell:=by intro x h;cases h <;> rfl)
  (hVb:okV scope.names X.env.scope.names=true:=by first|rfl|kernel_rfl)
  (hs:∀x,cq iter X.env x=pure x:=by intro _;rfl)
  (hsw:g9 (.ListComp elt (⟨target,iter,ifs,0⟩::gs) scope pos) (some (.Name x pos')) spos.line X.env=pure true:=by first|rfl|kernel_rfl) (hf:X.fn x=true\/X.env.scope.names.lookup x=some .local:=by first|exact .inl rfl|exact .inr rfl|assumption) :
  PS X (.Assign [.Name x pos'] (.ListComp elt (⟨target,iter,ifs,0⟩::gs) scope pos) spos) (tAsg (cQ9 is wi g tt tb) (bQl i)):=by
 intro pins s σ H D I h;rw[exec_Assign_Name_used _ _ _ _ hsw];refine aa (eK (aa ?_));show aE _ _ (comprehension _ _ _ _ _ _ _ (some _)>>=λ_=>pure ()) _ _ _;refine aa (comp_gen (Qv:=λ_ s'=>aE (aF X.prog X.w) X.A (pure ()) _ X.xe s') hcalm hN hturn cp hi hg ht hb hcf hpc hkind hcell hu hoc hVb hs I h λE C Y s6 U ⟨m,n⟩ B J=>?_);refine wpAny_assign_Name (bX7 U hN hix hx (show RelV (.ref E) (.ref E) from rfl) (λZ O ⟨a,G,L⟩=>?_) hf)
 have q:C≠a:=by
  rintro rfl;rcases L with z|z
  ·exact B.2.1 z
  ·exact B.2.2.2.1 x C z rfl
 refine⟨m,n.sameBut G q,λh' j=>ad (ad ?_)⟩;exact⟨_,Y,B.gone O j,J⟩
end
end L2
set_option maxHeartbeats 4000000
namespace L2
open PySem PySem.Spec PyProof.Rows
abbrev Dn(α:Type):=Hp->V->α->Prop
abbrev Fg:=ay
def dS:Dn Str:=λ_ v x=>v=.str x
def dB:Dn Bool:=λ_ v b=>v=.bl b
def dT{α:Type}(K:Fg)(R:Dn α):Dn (List α):=λH v ds=>∃a xs,v=.ref a/\SqT K H a xs/\bi (R H) xs ds
def dL{α:Type}(K:Fg)(R:Dn α):Dn (List α):=λH v ds=>∃a xs,v=.ref a/\SqL K H a xs/\bi (R H) xs ds
def SameT(H H':Hp):Prop:=∀a xs,Rd H a (.tup xs)->Rd H' a (.tup xs)
theorem Same.t{H H':Hp}(h:Same H H'):SameT H H':=λa xs r=>by
 rcases r with r|⟨o,r⟩
 ·exact .inl (h _ _ r)
 ·exact .inr ⟨o,h _ _ r⟩
theorem aQt{H:Hp}{p:Addr}{o:HO}(h:H p=none):Same H (upd H p o):=λb o' e=>by
 rw[upd_ne (by rintro rfl;rw[h] at e;cases e)];exact e
theorem SqT.stay{K:Fg}{H H':Hp}{a:Addr}{xs:List V}(h:SqT K H a xs)(s:SameT H H'):SqT K H' a xs:=h.elim (λr=>.inl (s a xs r)) .inr
class Im {α:Type}(R:Dn α):Prop where
 im:∀{H H' v d},SameT H H'->R H v d->R H' v d
class Mo {α:Type}(R:Dn α):Prop where
 mo:∀{H H' v d},Same H H'->R H v d->R H' v d
instance (priority:=low) {α:Type}{R:Dn α}[Im R]:Mo R:=⟨λs r=>Im.im s.t r⟩
theorem Paired.imp{α β:Type}{F G:α->β->Prop}(h:∀a b,F a b->G a b):∀{l:List α}{m:List β},bi F l m->bi G l m
 |_,_,.nil=>.nil
 |_,_,.cons p q=>.cons (h _ _ p) (Paired.imp h q)
instance:Im dS:=⟨λ_ h=>h⟩
instance {α:Type}{K:Fg}{R:Dn α}[Im R]:Im (dT K R):=⟨λs ⟨a,xs,e,q,p⟩=>⟨a,xs,e,q.stay s,Paired.imp (λ_ _ r=>Im.im s r) p⟩⟩
theorem beq_dec{α:Type}[DecidableEq α][BEq α][LawfulBEq α](a b:α):(a==b)=decide (a=b):=by
 by_cases h:a=b
 ·subst h;simp
 ·simp[h]
theorem Paired.get'{α β:Type}{F:α->β->Prop}:∀{l:List α}{m:List β}{i:Nat}{a:α},bi F l m->l[i]?=some a->∃b,m[i]?=some b/\F a b
 |_,_,_,_,.nil,h=>by simp at h
 |_,_,0,_,.cons p _,h=>by simp at h;subst h;exact⟨_,rfl,p⟩
 |_,_,i+1,a,.cons _ q,h=>by
  obtain⟨b,e,f⟩:=Paired.get' (i:=i) (a:=a) q (by simpa using h)
  exact⟨b,by simpa using e,f⟩
theorem eJt{α:Type}[DecidableEq α]:∀(ds es:List α),((aI (min ds.length es.length)).all λj=>decide (ds[j]?=es[j]?))=true->ds.length=es.length->ds=es:=λds es h hl=>by
 apply gN;intro i
 by_cases hi:i<ds.length
 ·have:=b7.mp h i (ax.mpr (by lia))
  exact of_decide_eq_true this
 ·rw[cx (by lia),cx (by lia)]
theorem cXm{α:Type}[DecidableEq α](ds es:List α)(n m:Nat)(hn:n=ds.length)(hm:m=es.length):((aI (min n m)).all (λj=>decide (ds[j]?=es[j]?))&&(n==m))=decide (ds=es):=by
 subst hn;subst hm
 by_cases h:ds=es
 ·subst h;simp
 ·rw[decide_eq_false h,Bool.and_eq_false_iff]
  by_cases hl:ds.length=es.length
  ·left
   cases q:(aI (min ds.length es.length)).all λj=>decide (ds[j]?=es[j]?) with
   |false=>rfl
   |true=>exact absurd (eJt ds es q hl) h
  ·right;simpa using hl
variable{α β γ:Type}
end L2
namespace ST
open PySem PySem.SetTable
def step(mask:Nat)(p:Probe):Probe :=
 if p.more>0 then {p with j:=p.j+1,more:=p.more-1} else
 {p with j:=(leap mask p.i p.perturb).1,more:=runEnd mask (leap mask p.i p.perturb).1-(leap mask p.i p.perturb).1,i:=(leap mask p.i p.perturb).1,perturb:=(leap mask p.i p.perturb).2}
theorem bQw(t:a8)(p:Probe):t.advance p=step t.mask p:=by
 unfold a8.advance step
 split <;> rfl
def road(mask:Nat):Nat->Probe->Probe
 |0,p=>p
 |m+1,p=>road mask m (step mask p)
theorem bQ1(mask:Nat):∀(m:Nat) (p:Probe),road mask (m+1) p=step mask (road mask m p)
 |0,_=>rfl
 |m+1,p=>by
  show road mask (m+1) (step mask p)=step mask (road mask m (step mask p));exact bQ1 mask m (step mask p)
theorem aQu(mask:Nat):∀(a b:Nat) (p:Probe),road mask (a+b) p=road mask b (road mask a p)
 |0,b,p=>by rw[Nat.zero_add];rfl
 |a+1,b,p=>by
  rw[Nat.add_right_comm];show road mask (a+b) (step mask p)=road mask b (road mask a (step mask p));exact aQu mask a b _
theorem bQx(mask:Nat)(p:Probe):(step mask p).dummy=p.dummy:=by unfold step;split <;> rfl
theorem bQ2(mask i:Nat)(h:i<=mask):i<=runEnd mask i/\runEnd mask i<=mask/\runEnd mask i<=i+9:=by
 unfold runEnd;split <;> lia
structure PV(mask:Nat)(p:Probe):Prop where
 more:p.more<=9
 i:p.i<=mask
 j:p.j+p.more<=mask
 pt:p.perturb<2^64
theorem bJa(mask i pt:Nat):(leap mask i pt).1<=mask:=by
 unfold leap
 have:=Nat.mod_lt (i*5+1+pt/32) (show 0<mask+1 by lia)
 show(i*5+1+pt/32)%(mask+1)<=mask;lia
theorem PV.step{mask:Nat}{p:Probe}(v:PV mask p):PV mask (ST.step mask p):=by
 unfold ST.step;have h1:=v.more;have h2:=v.i;have z:=v.j;have q:=v.pt
 split
 ·exact⟨by dsimp only;lia,h2,by dsimp only;lia,q⟩
 ·have l:=bJa mask p.i p.perturb;have r:=bQ2 mask _ l;refine⟨by dsimp only;lia,l,by dsimp only;lia,?_⟩
  show p.perturb/32<2^64;exact Nat.lt_of_le_of_lt (Nat.div_le_self _ _) q
theorem PV.road{mask:Nat}:∀(m:Nat) {p:Probe},PV mask p->PV mask (ST.road mask m p)
 |0,_,v=>v
 |m+1,_,v=>PV.road m v.step
theorem eQd(h:Int):bits h<2^64:=by
 unfold bits;have h1:=iw h (show(2^64:Int)≠0 by decide)
 have h2:=gx h (show(0:Int)<2^64 by decide)
 have:(2:Int)^64=18446744073709551616:=by decide
 have:(2:Nat)^64=18446744073709551616:=by decide
 lia
def start(mask:Nat)(h:Int):Probe:={j:=bits h%(mask+1),more:=runEnd mask (bits h%(mask+1))-bits h%(mask+1),i:=bits h%(mask+1),perturb:=bits h,dummy:=none}
theorem aXo(mask:Nat)(h:Int):PV mask (start mask h):=by
 have l:bits h%(mask+1)<=mask:=Nat.le_of_lt_succ (Nat.mod_lt _ (Nat.succ_pos mask));have r:=bQ2 mask _ l;exact⟨by show _-_<=9;lia,l,by show bits h%(mask+1)+(runEnd mask (bits h%(mask+1))-bits h%(mask+1))<=mask;lia,eQd h⟩
theorem cXn(mask:Nat):∀(k:Nat) (p:Probe),k<=p.more->road mask k p={p with j:=p.j+k,more:=p.more-k}
 |0,p,_=>rfl
 |k+1,p,h=>by
  show road mask k (step mask p)=_;have e:step mask p={p with j:=p.j+1,more:=p.more-1}:=by unfold step;rw[if_pos (by lia)]
  rw[e,cXn mask k _ (by show k<=p.more-1;lia)]
  show({j:=p.j+1+k,more:=p.more-1-k,i:=p.i,perturb:=p.perturb,dummy:=p.dummy}:Probe)={j:=p.j+(k+1),more:=p.more-(k+1),i:=p.i,perturb:=p.perturb,dummy:=p.dummy};rw[show p.j+1+k=p.j+(k+1) by lia,show p.more-1-k=p.more-(k+1) by lia]
theorem cXo(mask:Nat)(p:Probe):road mask (p.more+1) p={p with j:=(leap mask p.i p.perturb).1,more:=runEnd mask (leap mask p.i p.perturb).1-(leap mask p.i p.perturb).1,i:=(leap mask p.i p.perturb).1,perturb:=(leap mask p.i p.perturb).2}:=by
 rw[bQ1,cXn mask p.more p (Nat.le_refl _)];unfold step;rw[if_neg (by show ¬ p.more-p.more>0;lia)]
def aZk(mask:Nat):Nat->Nat×Nat->Nat×Nat
 |0,s=>s
 |l+1,s=>aZk mask l (leap mask s.1 s.2)
theorem aZm(mask:Nat):∀(l:Nat) (s:Nat×Nat),aZk mask (l+1) s=leap mask (aZk mask l s).1 (aZk mask l s).2
 |0,_=>rfl
 |l+1,s=>by
  show aZk mask (l+1) (leap mask s.1 s.2)=_;exact aZm mask l _
theorem bZ8(mask:Nat):∀(l:Nat) (s:Nat×Nat),(aZk mask l s).2=s.2/32^l
 |0,s=>by simp[aZk]
 |l+1,s=>by
  rw[aZm];show(aZk mask l s).2/32=_;rw[bZ8 mask l s,Nat.div_div_eq_div_mul,Nat.pow_succ]
theorem far(mask:Nat):∀(l:Nat) (p:Probe),PV mask p->∃m,m<=10*l/\(road mask m p).i=(aZk mask l (p.i,p.perturb)).1/\(road mask m p).perturb=(aZk mask l (p.i,p.perturb)).2/\(0<l->(road mask m p).j=(road mask m p).i)
 |0,p,_=>⟨0,Nat.le_refl _,rfl,rfl,λh=>absurd h (Nat.lt_irrefl _)⟩
 |l+1,p,v=>by
  obtain⟨m,h1,h2,z,B⟩:=far mask l p v;have q:=PV.road m v;refine⟨m+((road mask m p).more+1),?_,?_⟩
  ·have:=q.more;lia
  ·rw[aQu,cXo,aZm,<- h2,<- z];exact⟨rfl,rfl,λ_=>rfl⟩
def f5(N x:Nat):Nat:=(x*5+1)%N
def f5s(N:Nat):Nat->Nat->Nat
 |0,x=>x
 |a+1,x=>f5s N a (f5 N x)
theorem bZ9(N:Nat):∀(a b x:Nat),f5s N (a+b) x=f5s N b (f5s N a x)
 |0,b,x=>by rw[Nat.zero_add];rfl
 |a+1,b,x=>by rw[Nat.add_right_comm];exact bZ9 N a b _
def eQe(N:Nat):Nat->Nat->List Nat->List Nat
 |0,_,acc=>acc
 |a+1,x,acc=>eQe N a (f5 N x) (x::acc)
theorem bXf(N:Nat):∀(a x:Nat) (acc:List Nat) (y:Nat),y∈eQe N a x acc->y∈acc\/∃b,b<a/\f5s N b x=y
 |0,_,_,_,h=>.inl h
 |a+1,x,acc,y,h=>by
  rcases bXf N a (f5 N x) (x::acc) y h with h|⟨b,j,e⟩
  ·rcases aD.mp h with h|h
   ·exact .inr ⟨0,Nat.succ_pos _,h.symm⟩
   ·exact .inl h
  ·exact .inr ⟨b+1,Nat.succ_lt_succ j,e⟩
def Full(N:Nat):Prop:=f5s N N 0=0/\∀y,y<N->∃b,b<N/\f5s N b 0=y
theorem bZa{N:Nat}(h:(f5s N N 0==0&&(aI N).all λy=>(eQe N N 0 []).contains y)=true):Full N:=by
 simp only[aY,beq_iff_eq,b7,ax] at h;refine⟨h.1,λy j=>?_⟩;have q:=h.2 y j;rcases bXf N N 0 [] y (by simpa using q) with z|z
 ·cases z
 ·exact z
theorem Full.from{N:Nat}(F:Full N){x y:Nat}(hx:x<N)(hy:y<N):∃a,a<N/\f5s N a x=y:=by
 obtain⟨b,B,q⟩:=F.2 x hx;obtain⟨c,z,j⟩:=F.2 y hy
 by_cases h:b<=c
 ·refine⟨c-b,by lia,?_⟩
  rw[<- q,<- bZ9,show b+(c-b)=c by lia,j]
 ·refine⟨N-b+c,by lia,?_⟩
  rw[<- q,<- bZ9,show b+(N-b+c)=N+c by lia,bZ9,F.1,j]
theorem fXr:Full 8:=bZa (by decide +kernel)
theorem eJu:Full 32:=bZa (by decide +kernel)
theorem eQf:Full 128:=bZa (by decide +kernel)
theorem eQg:Full 512:=bZa (by decide +kernel)
def Mask(mask:Nat):Prop:=mask=7\/mask=31\/mask=127\/mask=511
theorem Mask.full{mask:Nat}(h:Mask mask):Full (mask+1):=by
 rcases h with rfl|rfl|rfl|rfl
 ·exact fXr
 ·exact eJu
 ·exact eQf
 ·exact eQg
theorem bZb{mask:Nat}:∀(a:Nat) (s:Nat×Nat),s.2<32->(aZk mask a s).1=f5s (mask+1) a s.1
 |0,_,_=>rfl
 |a+1,s,h=>by
  show(aZk mask a (leap mask s.1 s.2)).1=f5s (mask+1) a (f5 (mask+1) s.1);have e:s.2/32=0:=Nat.div_eq_of_lt h;have j:(leap mask s.1 s.2).1=f5 (mask+1) s.1:=by
   show(s.1*5+1+s.2/32)%(mask+1)=_;rw[e];rfl
  rw[bZb a _ (by show s.2/32<32;lia),j]
theorem bQ3(mask:Nat):∀(a b:Nat) (s:Nat×Nat),aZk mask (a+b) s=aZk mask b (aZk mask a s)
 |0,b,s=>by rw[Nat.zero_add];rfl
 |a+1,b,s=>by rw[Nat.add_right_comm];exact bQ3 mask a b _
theorem eJv{mask:Nat}(hm:Mask mask){p:Probe}(v:PV mask p){y:Nat}(hy:y<=mask):∃m,m<10*(mask+15)/\(road mask m p).j=y:=by
 have q:(aZk mask 12 (p.i,p.perturb)).1<mask+1:=by
  rw[aZm mask 11];exact Nat.lt_succ_of_le (bJa _ _ _)
 have z:(aZk mask 12 (p.i,p.perturb)).2<32:=by
  rw[bZ8]
  have:=v.pt
  show p.perturb/32^12<32;have e:(2:Nat)^64=18446744073709551616:=by decide
  have G:(32:Nat)^12=1152921504606846976:=by decide
  rw[G];lia
 obtain⟨a,J,D⟩:=hm.full.from q (Nat.lt_succ_of_le hy)
 obtain⟨m,h1,h2,_,B⟩:=far mask (12+a) p v;refine⟨m,by lia,?_⟩
 rw[B (by lia),h2,bQ3,bZb a _ z,D]
def Ris(xs:List Nat):Prop:=xs.Pairwise (· < ·)
theorem bZc(xs:Array Nat)(j:Nat)(hr:Ris xs.toList):∀(fuel lo hi:Nat),hi-lo<=fuel->lo<=hi->hi<=xs.size->(∀i,i<lo->xs.getD i j<j)->(∀i,hi<=i->i<xs.size->j<=xs.getD i j) ->
  below.go xs j fuel lo hi<=xs.size/\(∀i,i<below.go xs j fuel lo hi->xs.getD i j<j)/\∀i,below.go xs j fuel lo hi<=i->i<xs.size->j<=xs.getD i j
 |0,lo,hi,hf,hl,D,h1,h2=>by
  have e:lo=hi:=by lia
  subst e;exact⟨D,h1,h2⟩
 |fuel+1,lo,hi,hf,hl,D,h1,h2=>by
  unfold below.go
  by_cases z:lo<hi
  ·rw[if_pos z];have mlt:(lo+hi)/2<xs.size:=by lia
   have mono:∀a b,a<=b->b<xs.size->xs.getD a j<=xs.getD b j:=λa b O J=>by
    rcases Nat.lt_or_eq_of_le O with h|h
    ·have q:=(bO.mp hr) a b (by simpa using Nat.lt_trans h J) (by simpa using J) h
     simp only[hU,J,Nat.lt_trans h J,dif_pos];simpa using Nat.le_of_lt q
    ·subst h;exact Nat.le_refl _
   show(if xs.getD ((lo+hi)/2) j<j then _ else _)<=_/\_
   by_cases G:xs.getD ((lo+hi)/2) j<j
   ·simp only[G,if_true];exact bZc xs j hr fuel _ hi (by lia) (by lia) D (λi B=>Nat.lt_of_le_of_lt (mono i ((lo+hi)/2) (by lia) mlt) G) h2
   ·simp only[G,if_false];exact bZc xs j hr fuel lo _ (by lia) (by lia) (by lia) h1 (λi B L=>Nat.le_trans (Nat.le_of_not_lt G) (mono _ i B L))
  ·rw[if_neg z];have e:lo=hi:=by lia
   subst e;exact⟨D,h1,h2⟩
theorem bQy{xs:Array Nat}(hr:Ris xs.toList)(j:Nat):below xs j<=xs.size/\(∀i,i<below xs j->xs.getD i j<j)/\∀i,below xs j<=i->i<xs.size->j<=xs.getD i j :=
 bZc xs j hr xs.size 0 xs.size (by lia) (by lia) (Nat.le_refl _) (λi h=>absurd h (Nat.not_lt_zero _)) (λi h h'=>absurd h' (Nat.not_lt.mpr h))
theorem dZ6{xs:Array Nat}(hr:Ris xs.toList){i j:Nat}(h:xs[i]?=some j):below xs j=i:=by
 obtain⟨hi,e⟩:=dH.mp h;obtain⟨Z,J,G⟩:=bQy hr j;have Y:∀k,k<xs.size->xs.getD k j=xs.getD k 0:=λk D=>by simp[hU,D]
 have U:xs.getD i j=j:=by simp[hU,hi,e]
 have inc:∀a b,a<b->b<xs.size->xs.getD a j<xs.getD b j:=λa b z B=>by
  have q:=(bO.mp hr) a b (by simpa using Nat.lt_trans z B) (by simpa using B) z
  simp only[hU,B,Nat.lt_trans z B,dif_pos];simpa using q
 rcases Nat.lt_trichotomy (below xs j) i with h|h|h
 ·have O:=inc _ _ h hi;have L:=G _ (Nat.le_refl _) (Nat.lt_trans h hi);lia
 ·exact h
 ·have q:=J i h;lia
structure Tab(t:a8):Prop where
 mask:Mask t.mask
 nodum:t.dummies=#[]
 ris:Ris t.place.toList
 top:∀j∈t.place.toList,j<=t.mask
theorem bJb{t:a8}(T:Tab t){j i:Nat}(h:t.place[i]?=some j):t.slot j=.live i:=by
 unfold a8.slot;dsimp only;rw[dZ6 T.ris h,h];simp
theorem cXp{t:a8}(T:Tab t){j:Nat}(h:j∉t.place.toList):t.slot j=.empty:=by
 unfold a8.slot;dsimp only;have e:(t.place[below t.place j]?==some j)=false:=by
  cases q:t.place[below t.place j]?==some j with
  |false=>rfl
  |true =>
   have:=hJ q
   obtain⟨hi,e⟩:=dH.mp this;exact absurd (by rw[<- e];simp) h
 rw[e];simp only[aV,if_false];have z:has t.dummies j=false:=by rw[T.nodum];unfold has;simp
 rw[z];simp
theorem cZm{t:a8}(T:Tab t)(j:Nat):(∃i,t.slot j=.live i/\t.place[i]?=some j)\/(t.slot j=.empty/\j∉t.place.toList):=by
 by_cases h:j∈t.place.toList
 ·obtain⟨i,hi,e⟩:=bh h;have q:t.place[i]?=some j:=by
   rw[dH];exact⟨by simpa using hi,by simpa using e⟩
  exact .inl ⟨i,bJb T q,q⟩
 ·exact .inr ⟨cXp T h,h⟩
theorem cXq{t:a8}(T:Tab t)(hashAt:Nat->Int)(h:Int):∀(fuel:Nat) (p:Probe),p.dummy=none->(∃m,m<fuel/\(road t.mask m p).j∉t.place.toList) ->
    ∃m,m<fuel/\(∀m',m'<m->∃i,t.place[i]? =some (road t.mask m' p).j/\hashAt i≠h) /\
      (((road t.mask m p).j ∉ t.place.toList /\ probe.go t hashAt h fuel p=some (.empty (road t.mask m p).j none)) \/
       ∃i,t.place[i]? =some (road t.mask m p).j/\t.slot (road t.mask m p).j=.live i/\hashAt i=h/\probe.go t hashAt h fuel p=some (.candidate (road t.mask m p).j i (road t.mask (m+1) p)))
  |0,p,_,⟨m,hm,_⟩ =>absurd hm (Nat.not_lt_zero _)
  |fuel+1,p,hd,⟨m,hm,hf⟩ =>by
    unfold probe.go;rcases cZm T p.j with⟨i,e,q⟩|⟨e,q⟩
    · rw [e]
      dsimp only
      by_cases z:hashAt i=h
      · refine⟨0,Nat.succ_pos _,λ_ h' =>absurd h' (Nat.not_lt_zero _),.inr ⟨i,q,e,z,?_⟩⟩
        rw [if_pos (by simpa using z),bQw]
        rfl
      · rw [if_neg (by simpa using z),bQw]
        cases m with
        |zero =>exact absurd (eg.mpr (fJ q)) hf
        |succ m =>
          obtain⟨m1,h1,h2,D⟩:=cXq T hashAt h fuel (step t.mask p) (by rw [bQx]; exact hd) ⟨m,by lia,hf⟩
          refine⟨m1+1,by lia,λm' B =>?_,D⟩
          cases m' with
          |zero =>exact⟨i,q,z⟩
          |succ m' =>exact h2 m' (by lia)
    · rw [e]
      exact⟨0,Nat.succ_pos _,λ_ h' =>absurd h' (Nat.not_lt_zero _),.inl ⟨q,by rw [hd]; rfl⟩⟩
theorem bQz{t:a8}(T:Tab t)(hn:t.place.size<=t.mask):∃y,y<=t.mask/\y∉t.place.toList:=by
 apply aR;intro q;have all:∀y,y<t.mask+1->y∈t.place.toList:=λy j=>aR λh=>q ⟨y,Nat.le_of_lt_succ j,h⟩;have hl:(aI (t.mask+1)).length<=t.place.toList.length:=by
  apply gy.length_le_of_subset dq;intro y j;exact all y (ax.mp j)
 rw[bF] at hl
 have:t.place.toList.length=t.place.size:=by simp
 lia
theorem cZn{t:a8}(T:Tab t)(hn:t.place.size<=t.mask)(hashAt:Nat->Int)(h:Int){p:Probe}(v:PV t.mask p)(hd:p.dummy=none) :
    ∃m,(∀m',m'<m->∃i,t.place[i]? =some (road t.mask m' p).j/\hashAt i≠h) /\
      (((road t.mask m p).j ∉ t.place.toList /\ t.probe hashAt h p=some (.empty (road t.mask m p).j none)) \/
       ∃i,t.place[i]? =some (road t.mask m p).j/\t.slot (road t.mask m p).j=.live i/\hashAt i=h/\t.probe hashAt h p=some (.candidate (road t.mask m p).j i (road t.mask (m+1) p))):=by
  obtain⟨y,q,hf⟩:=bQz T hn;obtain⟨m,hm,e⟩:=eJv T.mask v q;obtain⟨m1,_,h2,z⟩:=cXq T hashAt h (10*turns t.mask) p hd ⟨m,hm,by rw [e]; exact hf⟩
  exact⟨m1,h2,z⟩
end ST
set_option autoImplicit false
namespace ST
open PySem PySem.SetTable
theorem aXp{α:Type}(xs:Array α)(p:Nat)(x:α)(h:p<=xs.size):(insertAt xs p x).toList=xs.toList.take p++x::xs.toList.drop p:=by
 unfold insertAt;simp only[bS,cC,Array.toList_extract,bd,List.singleton_append];simp only[List.extract,gO,Nat.sub_zero];rw[bN (l:=List.drop p xs.toList) (by simp)]
theorem aX6{α:Type}{l:List α}{p i:Nat}{x y:α}(hp:p<=l.length)(h:(l.take p++x::l.drop p)[i]?=some y):(i<p/\l[i]?=some y)\/(i=p/\y=x)\/(p<i/\l[i-1]?=some y):=by
 have hl:(l.take p).length=p:=by rw[aM];lia
 rcases Nat.lt_trichotomy i p with c|c|c
 ·left
  rw[db (by lia),gj c] at h
  exact⟨c,h⟩
 ·right;left
  subst c;rw[bY (by lia),hl,Nat.sub_self] at h
  simp at h;exact⟨rfl,h.symm⟩
 ·right;right
  rw[bY (by lia),hl] at h
  rw[show i-p=(i-1-p)+1 by lia,jC,iL] at h
  rw[show p+(i-1-p)=i-1 by lia] at h
  exact⟨c,h⟩
structure SetI(es:Array (Int×ae))(t:a8):Prop where
 tab:Tab t
 size:t.place.size=es.size
 room:es.size*5<t.mask*3
 reach:∀(i j:Nat) (e:Int×ae),t.place[i]?=some j->es[i]?=some e->∃r,(road t.mask r (start t.mask e.1)).j=j/\∀r',r'<r->(road t.mask r' (start t.mask e.1)).j∈t.place.toList
theorem SetI.le{es:Array (Int×ae)}{t:a8}(I:SetI es t):t.place.size<=t.mask:=by have:=I.size;have:=I.room;lia
theorem SetI.fits{es:Array (Int×ae)}{t:a8}(I:SetI es t):t.fits es.size=true:=by
 unfold kA kB;rw[I.tab.nodum,I.size]
 have:=I.room
 simp only[aY,beq_iff_eq,decide_eq_true_eq];refine⟨trivial,?_⟩;simp;lia
theorem SetI.way{es:Array (Int×ae)}{t:a8}(I:SetI es t):t.gaveWay=false:=by
 unfold a8.gaveWay;rcases I.tab.mask with e|e|e|e <;> rw[e] <;> rfl
theorem fresh_ok(f m:Nat)(led:Bool):SetI #[] (km f m led) where
 tab:=⟨.inl rfl,rfl,.nil,λj h=>by simp[km] at h⟩
 size:=rfl
 room:=by show 0*5<7*3;decide
 reach:=λi j e h=>by simp[km] at h
structure Put(t t':a8)(j p:Nat):Prop where
 tab:Tab t'
 mask:t'.mask=t.mask
 le:p<=t.place.size
 place:t'.place.toList=t.place.toList.take p++j::t.place.toList.drop p
theorem eJw{t:a8}(T:Tab t){j:Nat}(hj:j<=t.mask)(hf:j∉t.place.toList):Put t (t.put j).1 j (t.put j).2:=by
 obtain⟨Y,b2,b3⟩:=bQy T.ris j;have e:(t.put j).1.place.toList=t.place.toList.take (below t.place j)++j::t.place.toList.drop (below t.place j):=aXp _ _ _ Y;have Z:(t.put j).1.dummies=#[]:=by
  show(if has t.dummies j=true then _ else t.dummies)=#[]
  have q:has t.dummies j=false:=by rw[T.nodum];unfold has;simp
  rw[q];simp[T.nodum]
 refine⟨⟨T.mask,Z,?_,?_⟩,rfl,Y,e⟩
 ·unfold Ris;rw[e,bG,aX];have O:=T.ris;unfold Ris at O;have G:∀a∈t.place.toList.take (below t.place j),a<j:=λa B=>by
   obtain⟨i,hi,L⟩:=bh B;rw[aM] at hi;have D:i<t.place.size:=by (have:t.place.toList.length=t.place.size:=by simp);lia
   have q:=b2 i (by lia)
   simp only[hU,D,dif_pos] at q;rw[gP] at L;rw[<- L];simpa using q
  have J:∀a∈t.place.toList.drop (below t.place j),j<a:=λa B=>by
   obtain⟨i,hi,L⟩:=bh B;rw[bm] at hi;have hl:t.place.toList.length=t.place.size:=by simp
   have D:below t.place j+i<t.place.size:=by lia
   have q:=b3 (below t.place j+i) (by lia) D
   simp only[hU,D,dif_pos] at q;rw[gQ] at L;have ne:a≠j:=λz=>hf (by rw[<- z];exact en B)
   have q':j<=a:=by rw[<- L];simpa using q
   lia
  refine⟨O.sublist (jc _ _),⟨J,O.sublist (List.drop_sublist _ _)⟩,λa B b U=>?_⟩;rcases aD.mp U with rfl|U
  ·exact G a B
  ·exact Nat.lt_trans (G a B) (J b U)
 ·intro a B;rw[e] at B;rcases aS.mp B with B|B
  ·exact T.top a (du B)
  ·rcases aD.mp B with rfl|B
   ·exact hj
   ·exact T.top a (en B)
theorem put_set{es:Array (Int×ae)}{t:a8}(I:SetI es t){j r:Nat}{h:Int}{x:ae}(hj:j<=t.mask)(hf:j∉t.place.toList)(e:(road t.mask r (start t.mask h)).j=j)(hr:∀r',r'<r->(road t.mask r' (start t.mask h)).j∈t.place.toList) :
  ∀b,(insertAt es (t.put j).2 (h,x)).toList=es.toList.take (t.put j).2++(h,x)::es.toList.drop (t.put j).2/\(insertAt es (t.put j).2 (h,x)).size=es.size+1 /\
   Tab { (t.put j).1 with plain:=b}/\(t.put j).1.place.size=es.size+1/\(t.put j).1.mask=t.mask /\
   ∀(i j':Nat) (e':Int×ae),(t.put j).1.place[i]?=some j'->(insertAt es (t.put j).2 (h,x))[i]?=some e'->∃r,(road t.mask r (start t.mask e'.1)).j=j'/\∀r',r'<r->(road t.mask r' (start t.mask e'.1)).j∈(t.put j).1.place.toList:=by
 intro b;have P:=eJw I.tab hj hf;have hle:(t.put j).2<=es.size:=by rw[<- I.size];exact P.le
 have el:=aXp es (t.put j).2 (h,x) hle;have sz:(insertAt es (t.put j).2 (h,x)).size=es.size+1:=by
  have q:=congrArg d9 el;rw[ap,aK,aM,bm] at q
  have:es.toList.length=es.size:=by simp
  rw[show(insertAt es (t.put j).2 (h,x)).toList.length=(insertAt es (t.put j).2 (h,x)).size by simp] at q
  lia
 have U:(t.put j).1.place.size=es.size+1:=by
  have q:=congrArg d9 P.place;rw[ap,aK,aM,bm] at q
  have:t.place.toList.length=t.place.size:=by simp
  have:=I.size
  have:=P.le
  rw[show(t.put j).1.place.toList.length=(t.put j).1.place.size by simp] at q
  lia
 refine⟨el,sz,⟨P.tab.mask,P.tab.nodum,P.tab.ris,P.tab.top⟩,U,P.mask,λi j' e' h1 h2=>?_⟩;have sub:∀a∈t.place.toList,a∈(t.put j).1.place.toList:=λa L=>by
  rw[P.place];rw[<- bJ (t.put j).2 t.place.toList] at L;rcases aS.mp L with L|L
  ·exact be _ L
  ·exact a7 _ (ao _ L)
 have old:∀O,t.place.toList[O]?=some j'->es.toList[O]?=some e'->∃r,(road t.mask r (start t.mask e'.1)).j=j'/\∀r',r'<r->(road t.mask r' (start t.mask e'.1)).j∈(t.put j).1.place.toList:=λO a b=>by
  obtain⟨r,D,z⟩:=I.reach O j' e' (by rw[<- aW];exact a) (by rw[<- aW];exact b)
  exact⟨r,D,λr' G=>sub _ (z r' G)⟩
 have Y:(t.place.toList.take (t.put j).2++j::t.place.toList.drop (t.put j).2)[i]?=some j':=by rw[<- P.place];simpa using h1
 have J:(es.toList.take (t.put j).2++(h,x)::es.toList.drop (t.put j).2)[i]?=some e':=by rw[<- el];simpa using h2
 rcases aX6 (by simpa using P.le) Y with⟨Z,D⟩|⟨Z,D⟩|⟨Z,D⟩
 ·rcases aX6 (by simpa using hle) J with⟨B,z⟩|⟨B,z⟩|⟨B,z⟩
  ·exact old i D z
  ·lia
  ·lia
 ·rcases aX6 (by simpa using hle) J with⟨B,z⟩|⟨B,z⟩|⟨B,z⟩
  ·lia
  ·subst D z;exact⟨r,e,λr' G=>sub _ (hr r' G)⟩
  ·lia
 ·rcases aX6 (by simpa using hle) J with⟨B,z⟩|⟨B,z⟩|⟨B,z⟩
  ·lia
  ·lia
  ·exact old (i-1) D z
abbrev Own:=Array (Option Nat)
def liveOf(mask:Nat)(owner:Own):List (Nat×Nat):=(aI (mask+1)).filterMap λj=>(owner.getD j none).map (j,·)
theorem aZ6{α β:Type}{f g:α->Option β}:∀{l:List α},(∀a∈l,f a=g a)->l.filterMap f=l.filterMap g
 |[],_=>rfl
 |a::l,h=>by
  rw[cJ,cJ,h a ak,aZ6 λb j=>h b (ao _ j)]
theorem dZ7{mask:Nat}{owner:Own}{j k:Nat}(hs:owner.size=mask+1)(hj:j<=mask)(hn:owner.getD j none=none):(liveOf mask (owner.setIfInBounds j (some k))).Perm ((j,k)::liveOf mask owner):=by
 unfold liveOf;obtain⟨s,u,e⟩:=List.append_of_mem (ax.mpr (Nat.lt_succ_of_le hj));have nd:(aI (mask+1)).Nodup:=dq;rw[e] at nd ⊢;have h1:j∉s:=λh=>by
  have:=bV.mp nd
  exact absurd rfl (this.2.2 j h j ak)
 have h2:j∉u:=λh=>by
  have:=bV.mp nd
  exact(bE.mp this.2.1).1 h
 have g:∀a,a≠j->(owner.setIfInBounds j (some k)).getD a none=owner.getD a none:=λa q=>by
  rw[cf,cf,gX (cA q)]
 have B:(owner.setIfInBounds j (some k)).getD j none=some k:=by
  rw[cf,fM (by lia)];rfl
 rw[g6,g6,cJ,cJ,B,hn];simp only[Option.map_some,Option.map_none];rw[aZ6 (l:=s) (g:=λj=>(owner.getD j none).map (j,·)) λa q=>by rw[g a λz=>h1 (z▸q)],aZ6 (l:=u) (g:=λj=>(owner.getD j none).map (j,·)) λa q=>by rw[g a λz=>h2 (z▸q)]]
 exact eQ
theorem cQb{owner:Own}{j:Nat}(h:j<owner.size)(d:Option Nat):owner.getD j d=owner[j]:=by simp[hU,h]
theorem bXg{mask:Nat}{owner:Own}(hs:owner.size=mask+1):∀(fuel:Nat) (p:Probe),PV mask p->p.j=p.i->p.more=runEnd mask p.i-p.i->(∃l,l<fuel/\owner.getD (aZk mask l (p.i,p.perturb)).1 none=none) ->
  ∃r j,layClean.free mask owner fuel p.i p.perturb=some j/\(road mask r p).j=j/\j<=mask/\owner.getD j none=none/\∀r',r'<r->(owner.getD (road mask r' p).j none).isSome=true
 |0,p,_,_,_,⟨l,h,_⟩=>absurd h (Nat.not_lt_zero _)
 |fuel+1,p,v,O,hm,⟨l,hl,hf⟩=>by
  have re:=bQ2 mask p.i v.i;have jm:=v.j;have D:∀k,k<=p.more->p.i+k<=mask:=λk B=>by lia
  have gd:∀k,k<=p.more->owner.getD (p.i+k) (some 0)=owner.getD (p.i+k) none:=λk B=>by
   have:p.i+k<owner.size:=by have:=D k B;lia
   rw[cQb this,cQb this]
  have rd:∀k,k<=p.more->(road mask k p).j=p.i+k:=λk B=>by rw[cXn mask k p B,<- O]
  unfold layClean.free;have Z:runEnd mask p.i+1-p.i=p.more+1:=by lia
  rw[Z];cases hq:(aI (p.more+1)).find? λk=>(owner.getD (p.i+k) (some 0)).isNone with
  |some k =>
   rw[List.find?_range_eq_some] at hq;obtain⟨h1,h2,U⟩:=hq;have B:k<=p.more:=Nat.le_of_lt_succ (ax.mp h2);refine⟨k,p.i+k,rfl,rd k B,D k B,?_,λr' G=>?_⟩
   ·rw[gd k B] at h1;exact Option.isNone_iff_eq_none.mp h1
   ·have q:=U r' G;rw[gd r' (by lia)] at q
    rw[rd r' (by lia)]
    cases e:owner.getD (p.i+r') none with
    |none=>rw[e] at q;cases q
    |some z=>rfl
  |none =>
   rw[List.find?_eq_none] at hq;have taken:∀k,k<=p.more->(owner.getD (p.i+k) none).isSome=true:=λk B=>by
    have q:=hq k (ax.mpr (Nat.lt_succ_of_le B));rw[gd k B] at q;cases e:owner.getD (p.i+k) none with
    |none=>rw[e] at q;exact absurd rfl q
    |some z=>rfl
   cases l with
   |zero =>
    have q:=taken 0 (Nat.zero_le _);have J:owner.getD p.i none=none:=hf;rw[Nat.add_zero,J] at q;cases q
   |succ l =>
    have e:=cXo mask p;have L:PV mask (road mask (p.more+1) p):=PV.road _ v;obtain⟨r,j,f1,f2,Y,f4,f5⟩:=bXg hs fuel (road mask (p.more+1) p) L (by rw[e]) (by rw[e]) ⟨l,by lia,by rw[e];exact hf⟩
    refine⟨p.more+1+r,j,?_,by rw[aQu];exact f2,Y,f4,λr' G=>?_⟩
    ·rw[e] at f1;exact f1
    ·by_cases c:r'<=p.more
     ·rw[rd r' c];exact taken r' c
     ·have q:=f5 (r'-(p.more+1)) (by lia)
      rw[<- aQu,show p.more+1+(r'-(p.more+1))=r' by lia] at q
      exact q
structure OwnI(mask:Nat)(owner:Own)(hs:List Int):Prop where
 size:owner.size=mask+1
 perm:((liveOf mask owner).map (·.2)).Perm (aI hs.length)
 reach:∀(j k:Nat),owner.getD j none=some k->∃h,hs[k]?=some h/\∃r,(road mask r (start mask h)).j=j/\∀r',r'<r->(owner.getD (road mask r' (start mask h)).j none).isSome=true
theorem OwnI.free{mask:Nat}(hm:Mask mask){owner:Own}{hs:List Int}(I:OwnI mask owner hs)(hl:hs.length<=mask):∃y,y<=mask/\owner.getD y none=none:=by
 apply aR;intro D;have all:∀y,y<mask+1->(owner.getD y none).isSome=true:=λy B=>by
  cases e:owner.getD y none with
  |none=>exact absurd ⟨y,Nat.le_of_lt_succ B,e⟩ D
  |some z=>rfl
 have len:((aI (mask+1)).filterMap λj=>(owner.getD j none).map (j,·)).length=mask+1:=by
  have gen:∀l:List Nat,(∀y∈l,(owner.getD y none).isSome=true)->(l.filterMap λj=>(owner.getD j none).map (j,·)).length=l.length:=by
   intro l
   induction l with
   |nil=>intro _;rfl
   |cons a l G =>
    intro h;obtain⟨z,e⟩:=cj.mp (h a ak);rw[cJ,e];simp only[Option.map_some,aK];rw[G λy B=>h y (ao _ B)]
  rw[gen _ λy B=>all y (ax.mp B),bF]
 have q:=I.perm.length_eq;rw[ah,bF] at q;unfold liveOf at q;lia
theorem cXr{mask:Nat}(hm:Mask mask){owner:Own}{y:Nat}(hy:y<=mask)(hf:owner.getD y none=none)(p:Probe)(v:PV mask p):∃l,l<turns mask/\owner.getD (aZk mask l (p.i,p.perturb)).1 none=none:=by
 have j:(aZk mask 12 (p.i,p.perturb)).1<mask+1:=by rw[aZm mask 11];exact Nat.lt_succ_of_le (bJa _ _ _)
 have q:(aZk mask 12 (p.i,p.perturb)).2<32:=by
  rw[bZ8]
  have:=v.pt
  show p.perturb/32^12<32;have e:(2:Nat)^64=18446744073709551616:=by decide
  have B:(32:Nat)^12=1152921504606846976:=by decide
  rw[B];lia
 obtain⟨a,D,z⟩:=hm.full.from j (Nat.lt_succ_of_le hy)
 refine⟨12+a,by unfold turns;lia,?_⟩
 rw[bQ3,bZb a _ q,z];exact hf
def cXs(mask:Nat)(acc:Option (Own×Nat))(h:Int):Option (Own×Nat):=do
 let (owner,k) <- acc
 let j <- layClean.free mask owner (turns mask) (bits h%(mask+1)) (bits h)
 pure (owner.setIfInBounds j (some k),k+1)
theorem cQc{mask:Nat}(hm:Mask mask):∀(hs done:List Int) (owner:Own),OwnI mask owner done->done.length+hs.length<=mask ->
  ∃owner',hs.foldl (cXs mask) (some (owner,done.length))=some (owner',(done++hs).length)/\OwnI mask owner' (done++hs)
 |[],done,owner,I,_=>⟨owner,by rw[cr];rfl,by rw[cr];exact I⟩
 |h::hs,done,owner,I,hl=>by
  rw[aK] at hl;obtain⟨y,Z,hf⟩:=I.free hm (by lia)
  have v:=aXo mask h;obtain⟨r,j,f1,f2,f3,f4,f5⟩:=bXg I.size (turns mask) (start mask h) v rfl rfl (cXr hm Z hf _ v);have L:j<owner.size:=by have:=I.size;lia
  have z:∀a,a≠j->(owner.setIfInBounds j (some done.length)).getD a none=owner.getD a none:=λa O=>by
   rw[cf,cf,gX (cA O)]
  have Y:(owner.setIfInBounds j (some done.length)).getD j none=some done.length:=by
   rw[cf,fM L];rfl
  have more:∀a,(owner.getD a none).isSome=true->((owner.setIfInBounds j (some done.length)).getD a none).isSome=true:=λa O=>by
   by_cases c:a=j
   ·rw[c,Y];rfl
   ·rw[z a c];exact O
  have I':OwnI mask (owner.setIfInBounds j (some done.length)) (done++[h]):=by
   refine⟨by rw[Array.size_setIfInBounds];exact I.size,?_,λa k e=>?_⟩
   ·have q:=(dZ7 (k:=done.length) I.size f3 f4).map (·.2);rw[aU] at q;refine q.trans ?_;rw[ap,dW,dQ];exact(I.perm.cons _).trans (iM _ _).symm
   ·by_cases c:a=j
    ·subst c;rw[Y] at e;cases e;refine⟨h,by simp,r,f2,λG J=>more _ (f5 G J)⟩
    ·rw[z a c] at e;obtain⟨h',B,G,D,e3⟩:=I.reach a k e;exact⟨h',by rw[db (aB.mp B).1];exact B,G,D,λx hx=>more _ (e3 x hx)⟩
  obtain⟨owner',B,D⟩:=cQc hm hs (done++[h]) _ I' (by rw[ap,dW];lia)
  refine⟨owner',?_,by rw[bd] at D;exact D⟩
  rw[j8];have es:cXs mask (some (owner,done.length)) h=some (owner.setIfInBounds j (some done.length),done.length+1):=by
   show(do let j <- layClean.free mask owner (turns mask) (bits h%(mask+1)) (bits h);pure (owner.setIfInBounds j (some done.length),done.length+1))=_
   have U:layClean.free mask owner (turns mask) (bits h%(mask+1)) (bits h)=some j:=f1;rw[U]
   rfl
  rw[es];rw[ap,dW,bd] at B;exact B
theorem cXt(mask:Nat):OwnI mask (gu (mask+1) none) [] where
 size:=by simp
 perm:=by
  have e:liveOf mask (gu (mask+1) none)=[]:=by
   unfold liveOf;rw[List.filterMap_eq_nil_iff];intro a q
   have:(gu (mask+1) (none:Option Nat)).getD a none=none:=by
    rw[cf,jq];split <;> rfl
   rw[this];rfl
  rw[e];exact dI _
 reach:=λj k e=>by
  have:(gu (mask+1) (none:Option Nat)).getD j none=none:=by
   rw[cf,jq];split <;> rfl
  rw[this] at e;cases e
theorem bJc{mask:Nat}(hm:Mask mask)(hs:Array Int)(hl:hs.size<=mask):∃owner,layClean mask hs=some owner/\OwnI mask owner hs.toList:=by
 obtain⟨owner,B,z⟩:=cQc hm hs.toList [] _ (cXt mask) (by simpa using hl)
 refine⟨owner,?_,by simpa using z⟩
 unfold layClean
 have:hs.foldl (init:=some (gu (mask + 1) (none:Option Nat),0)) (λacc h=>do
  let (owner,k) <- acc
  let j <- layClean.free mask owner (turns mask) (bits h%(mask+1)) (bits h)
  pure (owner.setIfInBounds j (some k),k+1))=some (owner,hs.size):=by
  rw[<- Array.foldl_toList];have q:=B;simp only[bP,cu] at q;rw[show hs.toList.length=hs.size by simp] at q
  exact q
 rw[this]
 rfl
theorem cQd{α β:Type}{f:α->Option β}:∀{l:List α},(∀a∈l,(f a).isSome=true)->(l.filterMap f).length=l.length/\∀i:Nat,(l.filterMap f)[i]?=(l[i]?).bind f
 |[],_=>⟨rfl,λi=>by simp⟩
 |a::l,h=>by
  obtain⟨z,e⟩:=cj.mp (h a ak);obtain⟨h1,h2⟩:=cQd (l:=l) (f:=f) λb j=>h b (ao _ j);rw[cJ,e];refine⟨by simp[h1],λi=>?_⟩
  cases i with
  |zero=>simp[e]
  |succ i=>simpa using h2 i
theorem cQe{mask:Nat}{owner:Own}{j k:Nat}(h:(j,k)∈liveOf mask owner):j<=mask/\owner.getD j none=some k:=by
 unfold liveOf at h;obtain⟨a,B,e⟩:=fA.mp h;cases q:owner.getD a none with
 |none=>rw[q] at e;cases e
 |some z=>rw[q] at e;cases e;exact⟨Nat.le_of_lt_succ (ax.mp B),q⟩
theorem dZ8{mask:Nat}{owner:Own}{j k:Nat}(h1:j<=mask)(h2:owner.getD j none=some k):(j,k)∈liveOf mask owner :=
 fA.mpr ⟨j,ax.mpr (Nat.lt_succ_of_le h1),by rw[h2];rfl⟩
theorem dZ9(mask:Nat)(owner:Own):Ris ((liveOf mask owner).map (·.1)):=by
 unfold Ris liveOf;rw[bH];refine List.Pairwise.filterMap _ ?_ (List.pairwise_lt_range (n:=mask+1));intro a B j b hb G hb';cases q:owner.getD a none with
 |none=>rw[q] at hb;cases hb
 |some z =>
  rw[q] at hb;cases hb;cases q':owner.getD B none with
  |none=>rw[q'] at hb';cases hb'
  |some D=>rw[q'] at hb';cases hb';exact j
theorem cQf{α:Type}(es:Array α):((aI es.size).filterMap λk=>es[k]?)=es.toList:=by
 apply gN;intro i;have h:=cQd (l:=aI es.size) (f:=λk=>es[k]?) (λa j=>by
  have:=ax.mp j
  simp[this])
 rw[h.2 i]
 by_cases c:i<es.size
 ·rw[List.getElem?_range c];simp
 ·rw[cx (by simpa using c)];simp[c]
theorem cXu{es:Array (Int×ae)}{mask' wanted:Nat}(t:a8)(hm:Mask mask')(hw:sizeAbove wanted-1=mask')(hsz:es.size*5<mask'*3) :
  ∃t' order,t.relaid (es.map (·.1)) wanted=some (t',order)/\(order.filterMap (es[·]?)).size=es.size/\SetI (order.filterMap (es[·]?)) t'/\(order.filterMap (es[·]?)).toList.Perm es.toList:=by
 obtain⟨owner,e1,I⟩:=bJc hm (es.map (·.1)) (by rw[ko];lia)
 have el:(es.map (·.1)).toList.length=es.size:=by simp
 have G:=I.perm;rw[el] at G;have ks:∀k∈(liveOf mask' owner).map (·.2),(es[k]?).isSome=true:=λk hk=>by
  have:=ax.mp (G.mem_iff.mp hk)
  simp[this]
 obtain⟨f1,f2⟩:=cQd (f:=λk=>es[k]?) ks;have D:(j9 (es[·]?) ((liveOf mask' owner).map (·.2)).toArray).toList=((liveOf mask' owner).map (·.2)).filterMap (λk=>es[k]?):=by simp
 have perm:(j9 (es[·]?) ((liveOf mask' owner).map (·.2)).toArray).toList.Perm es.toList:=by
  rw[D,<- cQf es];exact G.filterMap _
 have size:(j9 (es[·]?) ((liveOf mask' owner).map (·.2)).toArray).size=es.size:=by
  have:=perm.length_eq
  simpa using this
 refine⟨{mask:=mask',place:=((liveOf mask' owner).map (·.1)).toArray,dummies:=#[],finger:=t.finger,led:=t.led,moves:=t.movedTo mask',plain:=t.plain},((liveOf mask' owner).map (·.2)).toArray,?_,size,?_,perm⟩
 ·unfold relaid laid;rw[hw,e1]
  rfl
 ·refine⟨⟨hm,rfl,?_,λj hj=>?_⟩,?_,?_,λi j e h1 h2=>?_⟩
  ·show Ris ((liveOf mask' owner).map (·.1)).toArray.toList;exact dZ9 _ _
  ·have L:j∈(liveOf mask' owner).map (·.1):=hj;obtain⟨⟨a,k⟩,h,rfl⟩:=aQ.mp L;exact(cQe h).1
  ·rw[size];show((liveOf mask' owner).map (·.1)).toArray.size=es.size
   have:=G.length_eq
   simpa using this
  ·rw[size];exact hsz
  ·have h1':((liveOf mask' owner).map (·.1))[i]?=some j:=by simpa using h1
   have B:(((liveOf mask' owner).map (·.2)).filterMap (λk=>es[k]?))[i]?=some e:=by
    rw[<- D,aW];exact h2
   rw[f2 i] at B;rw[aL] at h1' B;cases q:(liveOf mask' owner)[i]? with
   |none=>rw[q] at h1';cases h1'
   |some jk =>
    obtain⟨a,k⟩:=jk;rw[q] at h1' B;have ea:a=j:=aO h1';subst ea;have ek:es[k]?=some e:=B;obtain⟨_,ow⟩:=cQe (am q);obtain⟨h,Y,r,r1,Z⟩:=I.reach a k ow;have O:e.1=h:=by
     have:(es.map (·.1)).toList[k]?=some e.1:=by
      rw[aW,Array.getElem?_map,ek];rfl
     rw[this] at Y;exact aO Y
    rw[O];refine⟨r,r1,λU J=>?_⟩;obtain⟨z,ez⟩:=cj.mp (Z U J);have pv:=PV.road U (aXo mask' h)
    have:=pv.j
    show _∈((liveOf mask' owner).map (·.1)).toArray.toList;exact aQ.mpr ⟨_,dZ8 (by lia) ez,rfl⟩
theorem grow{mask n:Nat}(hm:Mask mask)(h1:n*5<mask*3)(h2:(n+1)*5>=mask*3)(hn:n+1<=300):∃mask',Mask mask'/\sizeAbove (grown (n+1))-1=mask'/\(n+1)*5<mask'*3/\¬ sizeAbove (grown (n+1))>sizeLine:=by
 rcases hm with rfl|rfl|rfl|rfl
 ·have e:n=4:=by lia
  subst e;exact⟨31,.inr (.inl rfl),by decide +kernel,by decide,by decide +kernel⟩
 ·have e:n=18:=by lia
  subst e;exact⟨127,.inr (.inr (.inl rfl)),by decide +kernel,by decide,by decide +kernel⟩
 ·have e:n=76:=by lia
  subst e;exact⟨511,.inr (.inr (.inr rfl)),by decide +kernel,by decide,by decide +kernel⟩
 ·lia
open PySem.Spec PyProof.Rows
section
variable{prog:au}{w:aN}{A:bj}{E:ae->aj->Prop}{s:aj}
def TK(prog:au)(w:aN)(h:bu)(k:List Str)(v:ae):Prop:=∃b,v=.ref b/\jU (strKind prog w) h k b
theorem TK.inj{h:bu}{k k':List Str}{v:ae}(a:TK prog w h k v)(b:TK prog w h k' v):k=k':=by
 obtain⟨q,rfl,h1⟩:=a;obtain⟨j,e,h2⟩:=b;cases e;exact h1.inj h2
abbrev hashT(prog:au)(w:aN)(k:List Str):Int:=tupleKeyHash (strKind prog w) k
theorem bZd{k:List Str}{vs:List ae}(h:ItemsAre (strKind prog w) k vs):∀v∈vs,∃x t,v=jx x t:=by
 induction h with
 |nil=>intro v hv;cases hv
 |cons h1 _ j =>
  intro v hv;rcases aD.mp hv with rfl|hv
  ·obtain⟨t,e⟩:=fq h1;exact⟨_,t,e⟩
  ·exact j v hv
theorem cQg{k:List Str}{v:ae}{Q:Bool->aj->Prop}(hk:TK prog w s.heap k v)(h:Q false s):aE (aF prog w) A (fK 8 v) Q E s:=by
 obtain⟨b,rfl,hk⟩:=hk;have D:=hk.typeIs;obtain⟨o,items,n,B,_,hd,hi⟩:=hk;unfold fK;refine aa (gJ D ?_);dsimp only;simp only[beq_self_eq_true,if_true];refine aa (ad ?_);simp only[gn,aV,if_false];refine aa (dJ B hd ?_);dsimp only;refine aa ?_;show aE _ _ (forIn items _ _) _ _ s;rw[<- gz];refine hW _ (λrest r s'=>r.1=none/\s'=s/\∀v∈rest,∃x t,v=jx x t) _ ?_ ?_ _ _ ⟨rfl,rfl,bZd hi⟩
 ·rintro x rest r s' ⟨q,rfl,j⟩;obtain⟨y,t,rfl⟩:=j x ak;unfold fK;refine aa (ad ?_);simp only[aV,if_false];exact ad ⟨rfl,rfl,λu z=>j u (ao _ z)⟩
 ·rintro⟨J,G⟩ s' ⟨q,rfl,_⟩;simp only at q;subst q;exact ad h
theorem dXq{k:List Str}{v:ae}{Q:Bool->aj->Prop}(hk:TK prog w s.heap k v)(h:Q true s):aE (aF prog w) A (eqIsQuiet 8 v) Q E s:=by
 obtain⟨b,rfl,hk⟩:=hk;exact wpAny_eqIsQuiet_tuple hk h
theorem eQh{k:List Str}{x:ae}{stored:List ae}{Q:Bool->aj->Prop}(hx:TK prog w s.heap k x)(hs:∀y∈stored,∃k',TK prog w s.heap k' y)(h:Q false s) :
  aE (aF prog w) A (searchCouldBeSeen x stored) Q E s:=by
 unfold searchCouldBeSeen;refine aa (hW _ (λrest r s'=>r.1=none/\s'=s/\∀y∈rest,∃k',TK prog w s.heap k' y) _ ?_ ?_ _ _ ⟨rfl,rfl,hs⟩)
 ·rintro y rest r s' ⟨J,rfl,j⟩;obtain⟨k',G⟩:=j y ak;have fin:∀y∈rest,∃k',TK prog w s'.heap k' y:=λz O=>j z (ao _ O);obtain⟨L,ex,_⟩:=id hx;obtain⟨B,U,_⟩:=id G
  have main:∀ c:Bool,aE (aF prog w) A (if c=true then pure (bM ((none,()):Option Bool × Unit)) else do
    if !(<- eqIsQuiet 8 x) then pure (bD (some true,())) else
    if !(<- eqIsQuiet 8 y) then pure (bD (some true,())) else
    if <- fK 8 x then pure (bD (some true,())) else
    if <- fK 8 y then pure (bD (some true,())) else pure (bM (none,())))
    (λr q=>match r with
     |bM D=>D.fst=none/\q=s'/\∀(y:ae),y∈rest->∃k',TK prog w s'.heap k' y
     |bD D=>False) E s':=by
   intro c;cases c with
   |true=>exact ad ⟨rfl,rfl,fin⟩
   |false =>
    simp only[aV,if_false];refine aa (dXq hx ?_);simp only[gn,aV,if_false];refine aa (dXq G ?_);simp only[gn,aV,if_false];refine aa (cQg hx ?_);simp only[aV,if_false];refine aa (cQg G ?_);simp only[aV,if_false];exact ad ⟨rfl,rfl,fin⟩
  rw[ex,U] at main ⊢;dsimp only;refine eB (main ((L==B)||(iN (.ref L)&&iN (.ref B)))) (λr s1 h=>?_) (λ_ _ e=>e)
  cases r with
  |yield D=>exact h
  |done D=>exact h.elim
 ·rintro⟨Z,Y⟩ s' ⟨J,rfl,_⟩;simp only at J;subst J;exact ad h
def ElT(prog:au)(w:aN)(h:bu)(es:List (Int×ae)):Prop:=∀e∈es,∃k,TK prog w h k e.2/\e.1=hashT prog w k
structure SetAt(h:bu)(a:Addr)(es:Array (Int×ae))(ep:Nat)(t:a8):Prop where
 obj:h.get? a=some {cls:=.type "set",dict:=none,data:=.set es ep t}
 inv:SetI es t
theorem SetAt.state{a:Addr}{es:Array (Int×ae)}{ep:Nat}{t:a8}{Q:(Array (Int×ae)×Nat×a8)->aj->Prop}(S:SetAt s.heap a es ep t)(h:Q (es,ep,t) s):aE (aF prog w) A (setState a) Q E s :=
 dM S.obj rfl S.inv.fits h
theorem bJd{a:Addr}{es:Array (Int×ae)}{ep:Nat}{t:a8}{k:List Str}{x:ae}{adding:Bool}(S:SetAt s.heap a es ep t)(hu:A.units<cB)(hel:ElT prog w s.heap es.toList)(hx:TK prog w s.heap k x)
  {M0:Nat}(hM:(road t.mask M0 (start t.mask (hashT prog w k))).j∉t.place.toList) {Q:SetFound->aj->Prop}
  (hfound:∀i?,(adding=true\/i?.isSome=true)->(∃e∈es.toList,TK prog w s.heap k e.2)->Q (.there i?) s)
  (hfree:∀j r,j<=t.mask->j∉t.place.toList->(road t.mask r (start t.mask (hashT prog w k))).j=j->(∀r',r'<r->(road t.mask r' (start t.mask (hashT prog w k))).j∈t.place.toList)->(¬ ∃e∈es.toList,TK prog w s.heap k e.2)->Q (.free j false) s) :
  ∀(fuel m:Nat) (stand:Option Probe),M0<fuel+m->stand.getD (t.probeStart (hashT prog w k))=road t.mask m (start t.mask (hashT prog w k)) ->
   (∀m',m'<m->∃(i:Nat) (e:Int×ae),t.place[i]?=some (road t.mask m' (start t.mask (hashT prog w k))).j/\es[i]?=some e/\¬ TK prog w s.heap k e.2)->m<=M0 ->
   aE (aF prog w) A (setSearchFrom a x (hashT prog w k) adding fuel stand) Q E s
 |0,m,stand,hf,_,_,hm=>by lia
 |fuel+1,m,stand,hf,hst,Y,hm=>by
  unfold setSearchFrom;refine aa (S.state ?_);dsimp only;rw[S.inv.way];simp only[aV,if_false];have v:=PV.road m (aXo t.mask (hashT prog w k));have dn:∀m,(road t.mask m (start t.mask (hashT prog w k))).dummy=none:=λm=>by
   induction m with
   |zero=>rfl
   |succ m ih=>rw[bQ1,bQx];exact ih
  obtain⟨m1,p1,p2⟩:=cZn S.inv.tab S.inv.le (λi=>(es[i]?.map (·.1)).getD 0) (hashT prog w k) v (dn m);rw[hst];have ahead:∀r,r<m+m1->∃(i:Nat) (e:Int×ae),t.place[i]?=some (road t.mask r (start t.mask (hashT prog w k))).j/\es[i]?=some e/\¬ TK prog w s.heap k e.2:=λr hr=>by
   by_cases c:r<m
   ·exact Y r c
   ·obtain⟨i,G,q2⟩:=p1 (r-m) (by lia)
    rw[<- aQu,show m+(r-m)=r by lia] at G
    obtain⟨hi,_⟩:=dH.mp G;have L:i<es.size:=by rw[<- S.inv.size];exact hi
    have O:es[i]?=some es[i]:=by simp[L]
    refine⟨i,es[i],G,O,λz=>q2 ?_⟩;obtain⟨J,z',eh⟩:=hel es[i] (by simp)
    rw[O];show es[i].1=_;rw[eh,z'.inj z]
  have inplace:∀r,r<m+m1->(road t.mask r (start t.mask (hashT prog w k))).j∈t.place.toList:=λr hr=>by
   obtain⟨i,e,q,_⟩:=ahead r hr;exact eg.mpr (fJ q)
  have hmM:m+m1<=M0:=by
   rcases Nat.lt_or_ge M0 (m+m1) with c|c
   ·exact absurd (inplace M0 c) hM
   ·exact c
  rcases p2 with⟨G,q2⟩|⟨i,G,q2,q3,q4⟩
  ·generalize hP:a8.probe t _ (hashT prog w k) (road t.mask m (start t.mask (hashT prog w k)))=pr;have e2:pr=some (.empty (road t.mask m1 (road t.mask m (start t.mask (hashT prog w k)))).j none):=by rw[<- hP];exact q2
   rw[e2];dsimp only;rw[<- aQu] at G ⊢;have pv:=(PV.road (m+m1) (aXo t.mask (hashT prog w k))).j;refine ad (hfree _ (m+m1) (by lia) G rfl inplace ?_)
   rintro⟨e,he,hke⟩;obtain⟨i,hi,ei⟩:=bh he;have O:es[i]?=some e:=by
    have h2:i<es.size:=by simpa using hi
    rw[<- ei];simp[h2]
   have L:i<t.place.size:=by rw[S.inv.size];simpa using hi
   obtain⟨r,r1,r2⟩:=S.inv.reach i t.place[i] e (by simp[L]) O
   obtain⟨J,z',eh⟩:=hel e he;have hk':J=k:=z'.inj hke;rw[eh,hk'] at r1 r2;rcases Nat.lt_or_ge r (m+m1) with c|c
   ·obtain⟨i',e',a1,a2,a3⟩:=ahead r c;rw[r1] at a1;have s1:=bJb S.inv.tab a1;have s2:=bJb (j:=t.place[i]) (i:=i) S.inv.tab (by simp[L])
    rw[s1] at s2;cases s2;rw[O] at a2;cases a2;exact a3 hke
   ·rcases Nat.lt_or_eq_of_le c with c|c
    ·exact G (r2 _ c)
    ·rw[c,r1] at G;exact G (by simp)
  ·generalize hP:a8.probe t _ (hashT prog w k) (road t.mask m (start t.mask (hashT prog w k)))=pr;have e2:pr=some (.candidate (road t.mask m1 (road t.mask m (start t.mask (hashT prog w k)))).j i (road t.mask (m1+1) (road t.mask m (start t.mask (hashT prog w k))))):=by rw[<- hP];exact q4
   rw[e2];dsimp only;have L:i<es.size:=by
    obtain⟨hi,_⟩:=dH.mp G;rw[<- S.inv.size];exact hi
   have O:es[i]?=some es[i]:=by simp[L]
   obtain⟨J,hy,eh⟩:=hel es[i] (by simp)
   by_cases U:t.led=true
   ·rw[U];simp only[gn,aV,if_false];rw[O];obtain⟨b,eb,hb⟩:=hy;obtain⟨bx,ex,hbx⟩:=id hx;have D:es[i]=(es[i].1,c8 b):=by rw[<- eb]
    rw[D];dsimp only;refine aa (bq ?_);rw[ex];refine iO hu hb hbx ?_;refine aa (S.state ?_);dsimp only;have yes:J=k->∃e∈es.toList,TK prog w s.heap k e.2:=λc=>⟨es[i],by simp,⟨b,eb,c▸hb⟩⟩
    by_cases B:(adding&&decide (J=k))=true
    ·rw[if_pos B];have c:J=k:=by
      simp only[aY,decide_eq_true_eq] at B;exact B.2
     exact ad (hfound none (.inl (by simp only[aY] at B;exact B.1)) (yes c))
    ·rw[if_neg B];have sm:t.sameMemory t.moves t.mask=some true:=by unfold sameMemory;rw[if_pos (by simp)]
     rw[sm];dsimp only;rw[if_pos rfl,q2];dsimp only;rw[O,D];dsimp only;refine aa (wpAny_isSame_ref_self ?_);rw[if_pos rfl];refine aa (ad ?_);dsimp only
     by_cases c:J=k
     ·rw[decide_eq_true c,if_pos rfl];exact ad (hfound _ (.inr rfl) (yes c))
     ·rw[decide_eq_false c,if_neg bz];rw[<- ex];refine bJd S hu hel hx hM hfound hfree fuel (m+m1+1) _ (by lia) ?_ (λr hr=>?_) ?_
      ·show road t.mask (m1+1) (road t.mask m _)=_;rw[<- aQu,Nat.add_assoc]
      ·rcases Nat.lt_or_eq_of_le (Nat.le_of_lt_succ hr) with d|d
       ·exact ahead r d
       ·rw[d];rw[<- aQu] at G;refine⟨i,es[i],G,O,λz=>c ?_⟩;exact TK.inj ⟨b,eb,hb⟩ z
      ·rcases Nat.lt_or_eq_of_le hmM with d|d
       ·exact d
       ·rw[<- aQu] at G;rw[d] at G;exact absurd (eg.mpr (fJ G)) hM
   ·have Z:t.led=false:=fg.mpr U;rw[Z];simp only[kr,if_true];refine aa (eQh hx (λy hy'=>?_) ?_)
    ·obtain⟨e,he,rfl⟩:=aQ.mp hy';have he':e∈es.toList:=by
      have:=eg.mp he
      exact eg.mpr (Array.mem_filter.mp this).1
     obtain⟨J,z,_⟩:=hel e he';exact⟨J,z⟩
    ·simp only[aV,if_false];rw[O];obtain⟨b,eb,hb⟩:=hy;obtain⟨bx,ex,hbx⟩:=id hx;have D:es[i]=(es[i].1,c8 b):=by rw[<- eb]
     rw[D];dsimp only;refine aa (bq ?_);rw[ex];refine iO hu hb hbx ?_;refine aa (S.state ?_);dsimp only;have yes:J=k->∃e∈es.toList,TK prog w s.heap k e.2:=λc=>⟨es[i],by simp,⟨b,eb,c▸hb⟩⟩
     by_cases B:(adding&&decide (J=k))=true
     ·rw[if_pos B];have c:J=k:=by
       simp only[aY,decide_eq_true_eq] at B;exact B.2
      exact ad (hfound none (.inl (by simp only[aY] at B;exact B.1)) (yes c))
     ·rw[if_neg B];have sm:t.sameMemory t.moves t.mask=some true:=by unfold sameMemory;rw[if_pos (by simp)]
      rw[sm];dsimp only;rw[if_pos rfl,q2];dsimp only;rw[O,D];dsimp only;refine aa (wpAny_isSame_ref_self ?_);rw[if_pos rfl];refine aa (ad ?_);dsimp only
      by_cases c:J=k
      ·rw[decide_eq_true c,if_pos rfl];exact ad (hfound _ (.inr rfl) (yes c))
      ·rw[decide_eq_false c,if_neg bz];rw[<- ex];refine bJd S hu hel hx hM hfound hfree fuel (m+m1+1) _ (by lia) ?_ (λr hr=>?_) ?_
       ·show road t.mask (m1+1) (road t.mask m _)=_;rw[<- aQu,Nat.add_assoc]
       ·rcases Nat.lt_or_eq_of_le (Nat.le_of_lt_succ hr) with d|d
        ·exact ahead r d
        ·rw[d];rw[<- aQu] at G;refine⟨i,es[i],G,O,λz=>c ?_⟩;exact TK.inj ⟨b,eb,hb⟩ z
       ·rcases Nat.lt_or_eq_of_le hmM with d|d
        ·exact d
        ·rw[<- aQu] at G;rw[d] at G;exact absurd (eg.mpr (fJ G)) hM
end
section
variable{prog:au}{w:aN}{A:bj}{E:ae->aj->Prop}{s:aj}
theorem bJe(a:Addr)(wanted:Nat):setRelay a wanted=(do
 let (es,_,t) <- setState a
 if a8.sizeAbove wanted>sizeLine then fz "set:memory"
 let (es,t) <- (do
  let some (t,order):=t.relaid (es.map (·.1)) wanted|fz "internal:set-table-without-room"
  let es':=order.filterMap (es[·]?)
  if es'.size !=es.size then fz "internal:set-table-lost-an-element"
  pure (es',t))
 storeSet a es t):=by rfl
theorem hbvT{k:List Str}{v:ae}{Q:Bool->aj->Prop}(hk:TK prog w s.heap k v)(h:Q (decide (k=[])) s):aE (aF prog w) A (hashByValue 8 v) Q E s:=by
 obtain⟨b,rfl,hk⟩:=hk;have z:=hk.typeIs;obtain⟨o,items,n,q,_,hd,hi⟩:=hk;unfold hashByValue;refine aa (ix z PySem.F.slot_tuple_hash.lookup ?_);dsimp only;refine aa (dJ q hd ?_);refine aa ?_;show aE _ _ (forIn items _ _) _ _ s;rw[<- gz];generalize hits:items.toList=j at hi;cases hi with
 |nil =>
  rw[iP];exact ad (ad h)
 |cons h1 h2 =>
  obtain⟨t,e⟩:=fq h1;subst e;rw[dP];have B:∀n x t,hashByValue n (jx x t)=pure false:=λn x t=>by unfold hashByValue;rfl
  rw[B];refine aa (aa (ad ?_));simp only[kr,if_true];refine ad ?_;exact ad (ad (by simpa using h))
def bZ0(prog:au)(w:aN)(h:bu)(es:List (Int×ae))(t:a8):Prop:=t.plain=true->∀e∈es,TK prog w h [] e.2
theorem addT{a:Addr}{es:Array (Int×ae)}{ep:Nat}{t:a8}{k:List Str}{x:ae}(S:SetAt s.heap a es ep t)(hu:A.units<cB)(hel:ElT prog w s.heap es.toList)(hpl:bZ0 prog w s.heap es.toList t)(hx:TK prog w s.heap k x)(hn:es.size+1<=300){Q:Bool->aj->Prop}
  (h:∀ h' es' ep' t' added,SetAt h' a es' ep' t'->c9 a s.heap h'->bZ0 prog w s.heap es'.toList t'->t'.led=t.led ->
   ((added=false/\es'=es/\∃e∈es.toList,TK prog w s.heap k e.2)\/(added=true/\es'.toList.Perm ((hashT prog w k,x)::es.toList)/\¬ ∃e∈es.toList,TK prog w s.heap k e.2))->Q added {s with heap:=h'}) :
  aE (aF prog w) A (jV a x (hashT prog w k)) Q E s:=by
 unfold jV setAddHashedIn;refine bq (aa (S.state ?_));dsimp only;have hbs:byScan x es=false:=by
  obtain⟨b,rfl,_⟩:=hx
  rfl
 rw[hbs];simp only[aV,if_false];obtain⟨y,hy,hf⟩:=bQz S.inv.tab S.inv.le;obtain⟨m,hm,e⟩:=eJv S.inv.tab.mask (aXo t.mask (hashT prog w k)) hy;have hm':m<100000+0:=by
  have:=S.inv.tab.mask
  have:t.mask<=511:=by rcases this with z|z|z|z <;> lia
  lia
 refine aa ?_;unfold setSearch;refine bJd S hu hel hx (M0:=m) (by rw[e];exact hf) (λi? _ hyes=>?_) (λj r hj hfj ej hrj hno=>?_) 100000 0 none hm' rfl (λm' h'=>absurd h' (Nat.not_lt_zero _)) (Nat.zero_le _)
 ·dsimp only;have q:=h s.heap es ep t false S (je a s.heap) hpl rfl (.inl ⟨rfl,rfl,hyes⟩);exact ad q
 ·dsimp only;refine aa (S.state ?_);dsimp only;have P:=put_set (x:=x) S.inv hj hfj ej hrj true;obtain⟨p1,p2,p3,p4,p5,p6⟩:=P;have p3d:(t.put j).1.dummies=#[]:=p3.nodum;have p3r:Ris (t.put j).1.place.toList:=p3.ris;have p3t:∀a∈(t.put j).1.place.toList,a<=(t.put j).1.mask:=p3.top;generalize hes:a8.insertAt es (t.put j).2 (hashT prog w k,x)=B at p1 p2 p6 ⊢;have D:B.toList.Perm ((hashT prog w k,x)::es.toList):=by
   rw[p1];refine eQ.trans ?_;rw[bJ]
  have rest:∀ tt:a8,tt.place=(t.put j).1.place->tt.dummies=#[]->tt.mask=t.mask->tt.led=t.led->(tt.plain=true->t.plain=true/\k=[])->aE (aF prog w) A (do
    storeSet a B tt
    if (!false&&tt.tooFull)=true then do
     setRelay a (dN (es.size+1))
     pure true
    else pure true) Q E s:=by
   intro tt h1 h2 h3 h4 h5;have T':Tab tt:=⟨by rw[h3];exact S.inv.tab.mask,h2,by rw[h1];exact p3r,λa ha=>by rw[h1] at ha;rw[h3,<- p5];exact p3t a ha⟩
   have J:∀L:List (Int×ae),L.Perm ((hashT prog w k,x)::es.toList)->∀t2:a8,t2.plain=tt.plain->bZ0 prog w s.heap L t2:=by
    intro L hp t2 ht2 hpt ee hee;rw[ht2] at hpt;obtain⟨q1,q2⟩:=h5 hpt;rcases aD.mp (hp.mem_iff.mp hee) with q|q
    ·rw[q,<- q2];exact hx
    ·exact hpl q1 ee q
   have hz:B.size<=sizeLine:=by rw[p2,bK];lia
   refine aa (gR S.obj rfl ?_ hz);have U:(s.heap.update a (dZ B tt)).get? a=some {cls:=.type "set",dict:=none,data:=.set B (ep+1) tt}:=by
    have:=cH (dZ B tt) S.obj (by rw[hX _ _ rfl];rfl)
    rw[hX _ _ rfl] at this;exact this
   have Y:=cb s.heap a (dZ B tt);have tf:tt.tooFull=decide ((es.size+1)*5>=t.mask*3):=by
    unfold a8.tooFull kB;rw[h2,h1,p4,h3]
    rfl
   have room:=S.inv.room
   by_cases G:(es.size+1)*5>=t.mask*3
   ·rw[tf,decide_eq_true G];simp only[kr,Bool.and_self,if_true];obtain⟨mask',hm1,hm2,hm3,hm4⟩:=grow S.inv.tab.mask room G hn;obtain⟨t',order,r1,r2,r3,r4⟩:=cXu (es:=B) tt hm1 hm2 (by rw[p2];exact hm3)
    have Z:t'.led=tt.led/\t'.plain=tt.plain:=by
     unfold relaid laid at r1;cases hq:layClean (sizeAbove (grown (es.size+1))-1) (Array.map (·.1) B) with
     |none=>rw[hq] at r1;cases r1
     |some ow=>rw[hq] at r1;cases r1;exact⟨rfl,rfl⟩
    have hfit1:tt.fits B.size=true:=by
     unfold kA kB
     have:t.mask>=7:=by rcases S.inv.tab.mask with z|z|z|z <;> lia
     simp only[aY,beq_iff_eq,decide_eq_true_eq];rw[h2,h1,p4,p2,h3];refine⟨rfl,?_⟩;show es.size+1+0<=t.mask;lia
    refine aa ?_;rw[bJe];refine aa (dM U rfl hfit1 ?_);dsimp only;rw[if_neg hm4,r1];dsimp only;rw[r2];simp only[bne_self_eq_false,aV,if_false,jA];have hz2:(order.filterMap (B[·]?)).size<=sizeLine:=by rw[r2];exact hz
    refine gR U rfl ?_ hz2;have ho2:((s.heap.update a (dZ B tt)).update a (dZ (order.filterMap (B[·]?)) t')).get? a=some {cls:=.type "set",dict:=none,data:=.set (order.filterMap (B[·]?)) (ep+1+1) t'}:=by
     have:=cH (dZ (order.filterMap (B[·]?)) t') U (by rw[hX _ _ rfl];rfl)
     rw[hX _ _ rfl] at this;exact this
    have hsb2:=Y.trans (cb (s.heap.update a (dZ B tt)) a (dZ (order.filterMap (B[·]?)) t'));exact ad (h _ _ _ _ true ⟨ho2,r3⟩ hsb2 (J _ (r4.trans D) _ Z.2) (Z.1.trans h4) (.inr ⟨rfl,r4.trans D,hno⟩))
   ·rw[tf,decide_eq_false G];simp only[kj,aV,if_false];have I':SetI B tt:=by
     refine⟨T',by rw[h1,p4,p2],by rw[h3,p2];lia,λi j' e' q1 q2=>?_⟩
     rw[h1] at q1;obtain⟨r,r1,r2⟩:=p6 i j' e' q1 q2;rw[h3,h1];exact⟨r,r1,r2⟩
    exact ad (h _ _ (ep+1) _ true ⟨U,I'⟩ Y (J _ D _ rfl) h4 (.inr ⟨rfl,D,hno⟩))
  by_cases hp:t.plain=true
  ·have O:(t.put j).1.plain=true:=hp;rw[O];simp only[if_true];refine aa (hbvT hx ?_)
   by_cases hk:k=[]
   ·rw[decide_eq_true hk];simp only[if_true];exact rest (t.put j).1 rfl p3d p5 rfl (λ_=>⟨hp,hk⟩)
   ·rw[decide_eq_false hk];simp only[aV,if_false];exact rest { (t.put j).1 with plain:=false} rfl p3d p5 rfl (λz=>nomatch z)
  ·have O:(t.put j).1.plain=false:=fg.mpr hp;rw[O];simp only[aV,if_false];refine aa (ad ?_);simp only[if_true];exact rest (t.put j).1 rfl p3d p5 rfl (λz=>by rw[O] at z;cases z)
theorem eQi{a:Addr}{es:Array (Int×ae)}{ep:Nat}{t:a8}{k:List Str}{x:ae}(S:SetAt s.heap a es ep t)(hu:A.units<cB)(hel:ElT prog w s.heap es.toList)(hpl:bZ0 prog w s.heap es.toList t)(hx:TK prog w s.heap k x)(hn:es.size+1<=300){Q:Bool->aj->Prop}
  (h:∀ h' tk es' ep' t' added,SetAt h' a es' ep' t'->c9 a s.heap h'->bZ0 prog w s.heap es'.toList t'->t'.led=t.led->s.toks<=tk ->
   ((added=false/\es'=es/\∃e∈es.toList,TK prog w s.heap k e.2)\/(added=true/\es'.toList.Perm ((hashT prog w k,x)::es.toList)/\¬ ∃e∈es.toList,TK prog w s.heap k e.2))->Q added {s with heap:=h',toks:=tk}) :
  aE (aF prog w) A (setAdd a x) Q E s:=by
 obtain⟨b,rfl,j⟩:=id hx;unfold setAdd;refine bq (aa (wpAny_pyHash_tuple hu j ?_));exact addT (s:={s with toks:=s.toks+(k.length+1)}) S hu hel hpl hx hn λh' es' ep' t' added h1 h2 B z q=>h h' _ es' ep' t' added h1 h2 B z (Nat.le_add_right _ _) q
end
def TupKeep(h h':bu):Prop:=∀b o,h.get? b=some o->o.cls=.type "tuple"->h'.get? b=some o
theorem TupKeep.trans{a b c:bu}(x:TupKeep a b)(y:TupKeep b c):TupKeep a c:=λd o e h=>y d o (x d o e h) h
def setOb(es:Array (Int×ae))(ep:Nat)(t:a8):Obj:={cls:=.type "set",dict:=none,data:=.set es ep t}
structure SetKd(prog:au)(w:aN)(κ:Type) where
 is:bu->κ->ae->Prop
 I:bu->Addr->Array (Int×ae)->Nat->a8->Prop
 inj:∀{h:bu}{k k':κ}{v:ae},is h k v->is h k' v->k=k'
 obj:∀{h:bu}{a:Addr}{es:Array (Int×ae)}{ep:Nat}{t:a8},I h a es ep t->h.get? a=some (setOb es ep t)
 fits:∀{h:bu}{a:Addr}{es:Array (Int×ae)}{ep:Nat}{t:a8},I h a es ep t->t.fits es.size=true
 few:∀{h:bu}{a:Addr}{es:Array (Int×ae)}{ep:Nat}{t:a8}{ks:List κ},I h a es ep t->bi (λ(e:Int×ae) k=>is h k e.2) es.toList ks->ks.Nodup->t.plain=true->es.size<=1
 fresh:∀{h:bu}{a:Addr}{led:Bool},h.get? a=some (setOb #[] 0 (.fresh 0 0 led))->I h a #[] 0 (.fresh 0 0 led)
 keepIs:∀{h h':bu}{k:κ}{v:ae},is h k v->TupKeep h h'->is h' k v
 keepI:∀{h h':bu}{a:Addr}{es:Array (Int×ae)}{ep:Nat}{t:a8},I h a es ep t->h'.get? a=h.get? a->TupKeep h h'->I h' a es ep t
 add:∀{A:bj}{E:ae->aj->Prop}{s:aj}{a:Addr}{es:Array (Int×ae)}{ep:Nat}{t:a8}{k:κ}{x:ae}{Q:Bool->aj->Prop},A.units<cB->I s.heap a es ep t->is s.heap k x->es.size+1<=300 ->
  (∀ h' tk es' ep' t' added,I h' a es' ep' t'->c9 a s.heap h'->t'.led=t.led->s.toks<=tk ->
   ((added=false/\es'=es/\∃e∈es.toList,is s.heap k e.2)\/(added=true/\(∃hh,es'.toList.Perm ((hh,x)::es.toList))/\¬ ∃e∈es.toList,is s.heap k e.2))->Q added {s with heap:=h',toks:=tk}) ->
  aE (aF prog w) A (setAdd a x) Q E s
theorem aXi{h h':bu}{a:Addr}{es:Array (Int×ae)}{ep:Nat}{t:a8}(ho:h.get? a=some (setOb es ep t))(sb:c9 a h h'):TupKeep h h':=λb o e c=>by
 refine(sb.2 b ?_).trans e;rintro rfl;rw[ho] at e;have q:o=setOb es ep t:=(aO e).symm;rw[q] at c;have z:dE "set"=dE "tuple":=c;injection z with j
 exact absurd j (by decide)
section
variable{prog:au}{w:aN}
theorem TK.keep{h h':bu}{k:List Str}{v:ae}(x:TK prog w h k v)(kp:TupKeep h h'):TK prog w h' k v:=by
 obtain⟨b,rfl,o,items,n,q,j,hd,hi⟩:=x;exact⟨b,rfl,o,items,n,kp b o q j,j,hd,hi⟩
theorem paired_mem{α β:Type}{R:α->β->Prop}:∀{l:List α}{m:List β},bi R l m->∀a∈l,∃b∈m,R a b
 |_,_,.nil,a,h=>nomatch h
 |_,_,.cons r t,a,h=>by
  rcases aD.mp h with rfl|h
  ·exact⟨_,ak,r⟩
  ·obtain⟨b,j,q⟩:=paired_mem t a h;exact⟨b,ao _ j,q⟩
theorem paired_mem'{α β:Type}{R:α->β->Prop}:∀{l:List α}{m:List β},bi R l m->∀b∈m,∃a∈l,R a b
 |_,_,.nil,a,h=>nomatch h
 |_,_,.cons r t,a,h=>by
  rcases aD.mp h with rfl|h
  ·exact⟨_,ak,r⟩
  ·obtain⟨b,j,q⟩:=paired_mem' t a h;exact⟨b,ao _ j,q⟩
theorem paired_perm{α β:Type}{R:α->β->Prop}{l l':List α}(p:l'.Perm l):∀{m:List β},bi R l m->∃m',m'.Perm m/\bi R l' m':=by
 have gen:∀{l l':List α},l.Perm l'->∀{m:List β},bi R l m->∃m',m'.Perm m/\bi R l' m':=by
  intro l l' p
  induction p with
  |nil=>intro m h;cases h;exact⟨[],dI _,.nil⟩
  |cons x _ D =>
   intro m h;cases h with
   |cons r t =>
    obtain⟨m',h1,h2⟩:=D t;exact⟨_,h1.cons _,.cons r h2⟩
  |swap x y l =>
   intro m h;cases h with
   |cons r t =>
    cases t with
    |cons B z=>exact⟨_,iQ _ _ _,.cons B (.cons r z)⟩
  |trans _ _ q j =>
   intro m h;obtain⟨m1,a1,J⟩:=q h;obtain⟨m2,a2,G⟩:=j J;exact⟨m2,a2.trans a1,G⟩
 intro m h;exact gen p.symm h
theorem few_aux{α β:Type}{R:α->β->Prop}{k0:β}{l:List α}{m:List β}(hp:bi R l m)(h0:∀a∈l,R a k0)(inj:∀a b b',R a b->R a b'->b=b')(nd:m.Nodup):l.length<=1:=by
 cases hp with
 |nil=>exact Nat.zero_le _
 |cons q t1 =>
  cases t1 with
  |nil=>exact Nat.le_refl _
  |cons j D =>
   have B:=inj _ _ _ (h0 _ ak) q;have z:=inj _ _ _ (h0 _ (ao _ ak)) j
   have:=(bE.mp nd).1
   exact absurd (by rw[<- B,z];exact ak) this
theorem empty_el{P:Int×ae->Prop}:∀e∈(#[]:Array (Int×ae)).toList,P e:=λe he=>absurd he (by simp)
def tupKd(prog:au)(w:aN):SetKd prog w (List Str) where
 is:=TK prog w
 I:=λh a es ep t=>SetAt h a es ep t/\ElT prog w h es.toList/\bZ0 prog w h es.toList t
 inj:=λa b=>a.inj b
 obj:=λx=>x.1.obj
 fits:=λx=>x.1.inv.fits
 few:=λ{h a es ep t ks} x hp nd hpl=>by
  have q:=few_aux hp (x.2.2 hpl) (λ_ _ _ r1 r2=>r1.inj r2) nd;simpa using q
 fresh:=λho=>⟨⟨ho,fresh_ok _ _ _⟩,empty_el,λ_=>empty_el⟩
 keepIs:=λx kp=>x.keep kp
 keepI:=λx e kp=>⟨⟨by rw[e];exact x.1.obj,x.1.inv⟩,λe he=>by
  obtain⟨k,q1,q2⟩:=x.2.1 e he;exact⟨k,q1.keep kp,q2⟩,λhp e he=>(x.2.2 hp e he).keep kp⟩
 add:=λ{A E s a es ep t k x Q} hu hI hx hn h=>by
  obtain⟨S,hel,hpl⟩:=hI;refine eQi S hu hel hpl hx hn λh' tk es' ep' t' added h1 h2 h3 h4 h5 h6=>?_;have kp:=aXi S.obj h2;refine h h' tk es' ep' t' added ⟨h1,?_,λhp e he=>(h3 hp e he).keep kp⟩ h2 h4 h5 ?_
  ·intro e he;rcases h6 with⟨_,rfl,_⟩|⟨_,hp,_⟩
   ·obtain⟨k,q1,q2⟩:=hel e he;exact⟨k,q1.keep kp,q2⟩
   ·rcases aD.mp (hp.mem_iff.mp he) with q|q
    ·rw[q];exact⟨k,hx.keep kp,rfl⟩
    ·obtain⟨k,q1,q2⟩:=hel e q;exact⟨k,q1.keep kp,q2⟩
  ·rcases h6 with q|⟨q1,q2,q3⟩
   ·exact .inl q
   ·exact .inr ⟨q1,⟨_,q2⟩,q3⟩
theorem bJf(t:a8)(n:Nat):(t.orStandIn n).led=t.led:=by unfold a8.orStandIn;split <;> rfl
theorem addS{A:bj}{E:ae->aj->Prop}{s:aj}{a:Addr}{es:Array (Int×ae)}{ep:Nat}{t:a8}{k:Str}{x:ae}{Q:Bool->aj->Prop}(ho:s.heap.get? a=some (setOb es ep t))(hf:t.fits es.size=true)(hel:ElemsOf (strKind prog w) es.toList)
    (hpl:t.plain=true->es=#[]) (hx:(strKind prog w).is k x=true) (hn:es.size+1<=300)
    (h:∀ h' es' ep' t' added,h'.get? a=some (setOb es' ep' t') -> t'.fits es'.size=true -> ElemsOf (strKind prog w) es'.toList -> (t'.plain=true -> es'=#[]) -> c9 a s.heap h' -> t'.led=t.led ->
      ((added=false/\es'=es/\∃e∈es.toList,(strKind prog w).is k e.2=true)\/(added=true/\es'.toList.Perm (((strKind prog w).hash k,x)::es.toList)/\¬ ∃e∈es.toList,(strKind prog w).is k e.2=true))->Q added {s with heap:=h'}) :
    aE (aF prog w) A (jV a x ((strKind prog w).hash k)) Q E s:=by
  obtain⟨tok,rfl⟩:=fq hx;have hb:es.size<scanBound:=by unfold scanBound; lia
  unfold jV setAddHashedIn;refine bq (aa (dM ho rfl hf ?_));dsimp only;rw [byScan_of rfl hb hel];simp only [↓reduceIte];unfold setAddByScan;refine aa ?_;refine aa (dG ?_);refine aa (wpAny_setScan_of hx ho rfl hf hel ?_);cases hr:List.findIdx? (λe=>(strKind prog w).is k e.2) es.toList with
  |some j =>
    dsimp only;obtain⟨hj,hpj,_⟩:=List.findIdx?_eq_some_iff_getElem.mp hr;refine ad (ad ?_);exact h s.heap es ep t false ho hf hel hpl (je a s.heap) rfl (.inl ⟨rfl,rfl,es.toList[j],d0 hj,hpj⟩)
  |none =>
    dsimp only;have hno:¬ ∃e∈es.toList,(strKind prog w).is k e.2=true:=by
      rintro⟨e,he,hp⟩;have:=List.findIdx?_eq_none_iff.mp hr e he;rw [hp] at this; exact Bool.noConfusion this
    have hgw:∀(b:Bool) {s1:aj}{Q':Unit->aj->Prop},Q' () s1->aE (aF prog w) A (match b with|true=>rule "set.scan.the-table-gave-way"|false=>pure ()) Q' E s1 :=
      λb s1 Q' hq =>by cases b <;> first|exact ad hq|exact dG hq
    have q:=layNew_perm t es ((strKind prog w).hash k) (.str k tok);have D:=layNew_fits t es ((strKind prog w).hash k) (.str k tok);have G:(layNew t es ((strKind prog w).hash k) (.str k tok)).2.1.led=t.led:=by
      unfold layNew
      split
      · exact bJf _ _
      · rfl
    generalize hL:layNew t es ((strKind prog w).hash k) (.str k tok)=L at q D G ⊢;obtain⟨es1,t1,J,gave⟩:=L;dsimp only at q D G ⊢;rw [cC] at q;have B:es1.toList.Perm (((strKind prog w).hash k,.str k tok)::es.toList):=q.trans (iM _ _);have Z:ElemsOf (strKind prog w) es1.toList:=(hel.push hx rfl).perm q;have hsz1:es1.size=es.size+1:=by
      have:=B.length_eq;simpa using this
    have hz1:es1.size<=sizeLine:=by rw [hsz1,bK]; lia
    refine aa (hgw _ ?_)
    have rest:∀ t2:a8,t2.fits es1.size=true -> t2.plain=false -> t2.led=t.led -> aE (aF prog w) A (do
        storeSet a es1 t2
        if (!J&&t2.tooFull)=true then do
            (match (jD t2 es1 (dN es1.size)).2.2 with|true =>rule "set.scan.the-table-gave-way"|false =>pure ())
            storeSet a (jD t2 es1 (dN es1.size)).1 (jD t2 es1 (dN es1.size)).2.1
            pure (some true)
          else pure (some true)) (λr s'=>aE (aF prog w) A (match r with|some added=>pure added|none=>setAddHashedIn a (.str k tok) ((strKind prog w).hash k) 99999) Q E s') E s:=by
      intro t2 q1 q2 q3;refine aa (gR ho rfl ?_ hz1);have ho1:(s.heap.update a (dZ es1 t2)).get? a=some (setOb es1 (ep+1) t2):=by
        have:=cH (dZ es1 t2) ho (by rw [hX _ _ rfl]; rfl)
        rw [hX _ _ rfl] at this; exact this
      have Y:=cb s.heap a (dZ es1 t2)
      split
      · have hp:=relayAll_perm t2 es1 (dN es1.size)
        have hfr:=relayAll_fits t2 es1 (dN es1.size);have U:(jD t2 es1 (dN es1.size)).2.1.led=t2.led/\(jD t2 es1 (dN es1.size)).2.1.plain=false:=by
          unfold jD
          split
          · rename_i t' order hq
            have : t'.led=t2.led/\t'.plain=t2.plain:=by
              unfold relaid laid at hq;cases hc:layClean (sizeAbove (dN es1.size)-1) (Array.map (·.1) es1) with
              |none =>rw [hc] at hq; cases hq
              |some ow =>rw [hc] at hq; cases hq; exact⟨rfl,rfl⟩
            dsimp only
            split
            · exact⟨this.1,this.2.trans q2⟩
            · exact⟨rfl,rfl⟩
          · exact⟨rfl,rfl⟩
        generalize hRl:jD t2 es1 (dN es1.size)=Rl at hp hfr U ⊢;obtain⟨O,t3,gave2⟩:=Rl;dsimp only at hp hfr U ⊢;have hsz2:O.size=es1.size:=by
          have:=hp.length_eq;simpa using this
        refine aa (hgw _ ?_);refine aa (gR ho1 rfl ?_ (by rw [hsz2]; exact hz1))
        have ho2:((s.heap.update a (dZ es1 t2)).update a (dZ O t3)).get? a=some (setOb O (ep+1+1) t3):=by
          have:=cH (dZ O t3) ho1 (by rw [hX _ _ rfl]; rfl)
          rw [hX _ _ rfl] at this; exact this
        refine ad (ad ?_);exact h _ O _ t3 true ho2 hfr (Z.perm hp) (λz =>by rw [U.2] at z; cases z) (Y.trans (cb _ a _)) (U.1.trans q3) (.inr ⟨rfl,hp.trans B,hno⟩)
      · refine ad (ad ?_)
        exact h _ es1 _ t2 true ho1 q1 Z (λz =>by rw [q2] at z; cases z) Y q3 (.inr ⟨rfl,B,hno⟩)
    split
    · refine aa ?_
      rw [hashByValue_scannable 8 rfl];refine ad ?_;exact rest _ (a8.fits_plain_off D) rfl G
    · rename_i hnp
      refine aa (ad ?_);simp only [↓reduceIte];exact rest t1 D (fg.mpr hnp) G
end
section
variable{prog:au}{w:aN}
def strKd(prog:au)(w:aN):SetKd prog w Str where
 is:=λ_ k v=>(eN prog w).is k v=true
 I:=λh a es ep t=>h.get? a=some (setOb es ep t)/\t.fits es.size=true/\ElemsOf (eN prog w) es.toList/\(t.plain=true->es=#[])
 inj:=λa b=>(eN prog w).inj _ _ _ a b
 obj:=λx=>x.1
 fits:=λx=>x.2.1
 few:=λx _ _ hp=>by rw[x.2.2.2 hp];exact Nat.zero_le _
 fresh:=λho=>⟨ho,rfl,empty_el,λ_=>rfl⟩
 keepIs:=λx _=>x
 keepI:=λx e _=>⟨by rw[e];exact x.1,x.2⟩
 add:=λ{A E s a es ep t k x Q} hu hI hx hn h=>by
  obtain⟨ho,hf,hel,hpl⟩:=hI;unfold setAdd;refine bq (aa ((eN prog w).pyHash hx ?_));exact addS (s:={ s with toks:=s.toks + 1 }) ho hf hel hpl hx hn λh' es' ep' t' added h1 h2 h3 h4 h5 h6 h7=>h h' _ es' ep' t' added ⟨h1,h2,h3,h4⟩ h5 h6 (Nat.le_succ _) (by
   rcases h7 with q|⟨q1,q2,q3⟩
   ·exact .inl q
   ·exact .inr ⟨q1,⟨_,q2⟩,q3⟩)
structure Mem{κ:Type}(D:SetKd prog w κ)(h:bu)(a:Addr)(done:List κ)(led:Bool)(ks:List κ):Prop where
 ex:∃es ep t,D.I h a es ep t/\t.led=led/\bi (λ(e:Int×ae) k=>D.is h k e.2) es.toList ks
 nd:ks.Nodup
 mem:∀k,k∈ks↔k∈done
theorem Mem.keep{κ:Type}{D:SetKd prog w κ}{h h':bu}{a:Addr}{done:List κ}{led:Bool}{ks:List κ}(M:Mem D h a done led ks)(e:h'.get? a=h.get? a)(kp:TupKeep h h'):Mem D h' a done led ks:=by
 obtain⟨es,ep,t,h1,h2,j⟩:=M.ex;exact⟨⟨es,ep,t,D.keepI h1 e kp,h2,L2.Paired.mapP j λ_ _ q=>D.keepIs q kp⟩,M.nd,M.mem⟩
theorem Mem.size{κ:Type}{D:SetKd prog w κ}{h:bu}{a:Addr}{done:List κ}{led:Bool}{ks:List κ}(M:Mem D h a done led ks):ks.length<=done.length :=
 M.nd.length_le_of_subset λk j=>(M.mem k).mp j
theorem addM{κ:Type}[DecidableEq κ](D:SetKd prog w κ){A:bj}{E:ae->aj->Prop}{s:aj}{a:Addr}{done:List κ}{led:Bool}{ks:List κ}{k:κ}{x:ae}{Q:Bool->aj->Prop}(hu:A.units<cB)(M:Mem D s.heap a done led ks)(hx:D.is s.heap k x)(hn:ks.length+1<=300)
  (h:∀h' tk ks',Mem D h' a (done++[k]) led ks'->c9 a s.heap h'->TupKeep s.heap h'->s.toks<=tk->Q (decide (k∉ks)) {s with heap:=h',toks:=tk}) :
  aE (aF prog w) A (setAdd a x) Q E s:=by
 obtain⟨es,ep,t,h1,h2,O⟩:=M.ex;have hl:es.size=ks.length:=by have:=ca O;simpa using this
 refine D.add hu h1 hx (by lia) λh' tk G J t' added q1 q2 q3 q4 q5=>?_
 have kp:=aXi (D.obj h1) q2;have B:bi (λ(e:Int×ae) k=>D.is h' k e.2) es.toList ks:=L2.Paired.mapP O λ_ _ q=>D.keepIs q kp;have isin:(∃e∈es.toList,D.is s.heap k e.2)↔k∈ks:=by
  constructor
  ·rintro⟨e,he,q⟩;obtain⟨L,hk',q'⟩:=paired_mem O e he;rw[D.inj q q'];exact hk'
  ·intro j;obtain⟨e,he,q⟩:=paired_mem' O k j;exact⟨e,he,q⟩
 rcases q5 with⟨Z,Y,U⟩|⟨Z,⟨hh,Y⟩,U⟩
 ·have j:=isin.mp U;have q:=h h' tk ks ⟨⟨G,J,t',q1,q3.trans h2,by rw[Y];exact B⟩,M.nd,λL=>by
   rw[M.mem L,aS,aH];exact⟨.inl,λz=>z.elim id λz=>by rw[z];exact(M.mem k).mp j⟩⟩ q2 kp q4
  rw[decide_eq_false (λz=>z j)] at q;rw[Z];exact q
 ·have j:k∉ks:=λz=>U (isin.mpr z);obtain⟨ks',p1,p2⟩:=paired_perm Y (R:=λ(e:Int × ae) k=>D.is h' k e.2) (m:=k::ks) (.cons (D.keepIs hx kp) B);have q:=h h' tk ks' ⟨⟨G,J,t',q1,q3.trans h2,p2⟩,p1.nodup_iff.mpr (bE.mpr ⟨j,M.nd⟩),λL=>by
   rw[p1.mem_iff,aD,aS,aH,M.mem L];exact⟨λz=>z.symm,λz=>z.symm⟩⟩ q2 kp q4
  rw[decide_eq_true j] at q;rw[Z];exact q
theorem dZa{κ:Type}[DecidableEq κ](D:SetKd prog w κ){A:bj}{R:Result->aj->Prop}{I S l:Addr}{items:Array ae}{ks:List κ}{led:Bool}(hh:A.in1.handled=none)(hu:A.in1.units<cB)(hne:l≠I)(hSI:S≠I)(hSl:S≠l){cs:List κ}(hcs:∀k∈ks,k∈cs)(hn:cs.length+1<=300) :
  ∀(j i:Nat) (s:aj),items.size-i=j->i<=items.size->s.heap.IsListIter I l i->s.heap.IsList l items->bi (λv k=>D.is s.heap k v) items.toList ks->(∃ms,Mem D s.heap S (ks.take i) led ms) ->
   (∀h' tk ms,Mem D h' S ks led ms->TupKeep s.heap h'->(∀b o,b≠S->b≠I->s.heap.get? b=some o->h'.get? b=some o)->R (.ok (.ret .none)) {s with heap:=h',toks:=tk}) ->
   fB (aF prog w) A (.builtin "set.update.loop" ⟨[.ref S,.ref I],[]⟩) R s:=by
 have Z:∀ {h h':bu} {i:Nat},h.IsListIter I l i->(∀ b o,b≠I->h.get? b=some o->h'.get? b=some o)->TupKeep h h':=λst k b o e c=>k b o (by
  rintro rfl;obtain⟨o',e',c',_⟩:=st;rw[e] at e';cases e';rw[c] at c';injection c' with c''
  exact absurd c'' (by decide)) e
 intro j
 induction j with
 |zero =>
  intro i s hj hi z hl L hM hR;have hin:i=items.size:=by lia
  subst hin;refine cZ gh ?_;rw[cD eE _];show aE _ A.in1 (eV (.ref I)>>=_) _ _ s;refine aa (gZ hh z hl (by simp) λh' eb=>?_)
  show aE _ A.in1 (ret ce) _ _ _;have kp:=Z z λb o hb e=>eb b o hb e;obtain⟨ms,M⟩:=hM;have hlen:ks.length=items.size:=by have:=ca L;simpa using this.symm
  rw[bN (by lia)] at M
  obtain⟨es,ep,t,h1,_⟩:=id M.ex;have hS:=D.obj h1;exact ad (hR h' s.toks ms (M.keep (by rw[hS];exact eb S _ hSI hS) kp) kp λb o _ hb e=>eb b o hb e)
 |succ j ih =>
  intro i s hj hi z hl L hM hR;have O:i<items.size:=by lia
  refine cZ gh ?_;rw[cD eE _];show aE _ A.in1 (eV (.ref I)>>=_) _ _ s;refine aa (gG z hl (x:=items[i]) (by simp[O]) λh1 st1 B=>?_)
  have G:=Z z λb o hb e=>(B.2 b hb).trans e;obtain⟨ms,M⟩:=hM;obtain⟨es,ep,t,q1,_⟩:=id M.ex;have hS:=D.obj q1;have M1:=M.keep (h':=h1) (by rw[B.2 S hSI]) G
  have hlen:ks.length=items.size:=by have:=ca L;simpa using this.symm
  have hki:ks[i]?=some ks[i]:=af (by lia)
  have hx:D.is s.heap ks[i] items[i]:=by
   have gen:∀{l:List ae}{m:List κ},bi (λv k=>D.is s.heap k v) l m->∀(n:Nat) (v:ae) (k:κ),l[n]?=some v->m[n]?=some k->D.is s.heap k v:=by
    intro l m L
    induction L with
    |nil=>intro n v k h;simp at h
    |cons r _ ih =>
     intro n v k h1 h2;cases n with
     |zero=>simp at h1 h2;subst h1;subst h2;exact r
     |succ n=>exact ih n v k (by simpa using h1) (by simpa using h2)
   exact gen L i _ _ (by simp[O]) hki
  show aE _ A.in1 (fW [items[i]] (setAdd S items[i])>>=_) _ _ _;refine aa (bq ?_);have hms:ms.length<=cs.length:=M1.nd.length_le_of_subset λk hk=>hcs k (du ((M1.mem k).mp hk));refine addM D (s:={s with heap:=h1}) hu M1 (D.keepIs hx G) (by lia) λh2 tk ms' M2 J Y htk=>?_
  have hl2:h2.IsList l items:=by
   obtain⟨o,e,r⟩:=hl;exact⟨o,(J.2 l (cA hSl)).trans ((B.2 l hne).trans e),r⟩
  have st2:h2.IsListIter I l (i+1):=by
   obtain⟨o,e,r⟩:=st1;exact⟨o,(J.2 I (cA hSI)).trans e,r⟩
  refine ad ⟨eO eE _,ih (i+1) _ (by lia) O st2 hl2 (L2.Paired.mapP L λ_ _ q=>D.keepIs q (G.trans Y)) ⟨ms',?_⟩ λh' tk' U a1 a2 a3=>?_⟩
  ·have et:ks.take (i+1)=ks.take i++[ks[i]]:=by rw[cE,hki];rfl
   rw[et];exact M2
  ·exact hR h' tk' U a1 ((G.trans Y).trans a2) λb o hb1 hb2 e=>a3 b o hb1 hb2 ((J.2 b hb1).trans ((B.2 b hb2).trans e))
abbrev ledOf(w:aN):Bool:=!(w.params.followText "set-order")
theorem dZb{A:bj}{E:ae->aj->Prop}{s:aj}(a:ae){Q1:ae->aj->Prop}
  (h:Q1 (.ref s.heap.objs.size) {s with heap:=s.heap.push (setOb #[] 0 (.fresh 0 0 (ledOf w)))}) :
  fB (aF prog w) A (.call (.builtin "set.__new__") ⟨[.type "set",a],[]⟩) (wants Q1 E) s:=by
 refine iu ?_;show aE _ A.in1 (do checkBuiltinCall "set.__new__" ⟨[.type "set",a],[]⟩;again (.builtin "set.__new__" ⟨[.type "set",a],[]⟩)) _ _ s
 refine aa (jd (PySem.F.newCall_set_1 a) (ad ⟨eO kc _,cZ PySem.F.entry_set_new ?_⟩));rw[cD kc _];unfold cv.«set.__new__» cv.Frozenset.newClass;have j:=sub_set_self;obtain⟨z,g,d,q,os⟩:=s;dsimp only
 wp_walk
 refine dl (ad ?_);dsimp only;simp only[newObj];refine aa (wpAny_alloc (ad ?_));exact ad h
end
section
variable{prog:au}{w:aN}
theorem cZo{κ:Type}[DecidableEq κ](D:SetKd prog w κ){A:bj}{E:ae->aj->Prop}{s:aj}{l:Addr}{items:Array ae}{ks:List κ}{Q:ae->aj->Prop}
  (hh:A.handled=none) (hu:A.units+8<cB) (hl:s.heap.IsList l items) (hi:bi (λv k=>D.is s.heap k v) items.toList ks) {cs:List κ}(hcs:∀k∈ks,k∈cs) (hb:cs.length+1<=300)
  (h:∀ (h':bu) (tk:Nat) ms,Mem D h' s.heap.objs.size ks (ledOf w) ms->TupKeep s.heap h' ->
   (∀b o,b<s.heap.objs.size->s.heap.get? b=some o->h'.get? b=some o)->Q (.ref s.heap.objs.size) {s with heap:=h',toks:=tk}) :
  aE (aF prog w) A (call (.type "set") [.ref l]) Q E s:=by
 obtain⟨c,tl,hmro⟩:=PySem.F.called_set.mro;have hmade:=PySem.F.called_set.made;have hsub:=PySem.F.called_set.sub;refine wpAny_call (iu ?_);show aE _ _ (callAny (.type "set") _) _ _ _;refine ad ⟨Code.quiet_builtin _ (by decide +kernel),cZ PySem.F.entry_type_call ?_⟩
 rw[bj.under_plain (weight_type_call_type "set" [.ref l] []) rfl];have h1:=PySem.F.called_set.notType;have h2:=PySem.F.called_set.canCreate;have hct:=PySem.F.typeCall_set_1 (.ref l)
 repeat (any_goals (first|assumption|wp_step))
 refine iB (dZb (.ref l) (E:=E) (Q1:=λobj s1=>obj=.ref s.heap.objs.size/\s1={s with heap:=s.heap.push (setOb #[] 0 (.fresh 0 0 (ledOf w)))}) ⟨rfl,rfl⟩) λr s1 hr=>?_
 cases r with
 |error e=>exact hr
 |ok fl =>
  cases fl with
  |ret obj =>
   obtain⟨rfl,rfl⟩:=hr;have hS:(s.heap.push (setOb #[] 0 (.fresh 0 0 (ledOf w)))).get? s.heap.objs.size=some (setOb #[] 0 (.fresh 0 0 (ledOf w))):=ar _ rfl;have hT:kC {s with heap:=s.heap.push (setOb #[] 0 (.fresh 0 0 (ledOf w)))} (.ref s.heap.objs.size) "set":=⟨_,hS,rfl⟩
   have hli:=PySem.F.called_set.init.lookup;have hbi:=PySem.F.called_set.init.bind (.ref s.heap.objs.size)
   repeat (any_goals (first|assumption|wp_step))
   refine iB (codeAny_call_builtin (R:=wants (λr s2=>r=.none/\∃ h' tk ms,s2={ s with heap:=h',toks:=tk }/\Mem D h' s.heap.objs.size ks (ledOf w) ms/\TupKeep s.heap h' /\
     (∀b o,b<s.heap.objs.size->s.heap.get? b=some o->h'.get? b=some o)) E) PySem.F.called_set.init.plain PySem.F.entry_set_init (check_set_init_1 hT ?_)) λr2 s2 G=>?_
   ·obtain⟨ol,O,hcl,nl,hdl⟩:=hl;obtain⟨ocls,z,odata,j⟩:=ol;simp only at hcl hdl;subst hcl;subst hdl;have L:(s.heap.push (setOb #[] 0 (.fresh 0 0 (ledOf w)))).get? l=some {cls:=.type "list",dict:=z,data:=.seq items nl,slots:=j}:=ag _ O;have hsls:=PySem.F.sub_list_set;have hslf:=PySem.F.sub_list_frozenset;have hne:(dE "list" ==dE "dict")=false:=by decide
    have Z:(s.heap.push (setOb #[] 0 (.fresh 0 0 (ledOf w)))).IsList l items:=⟨_,L,rfl,nl,rfl⟩;unfold cv.«set.__init__» noKeywords cv.Frozenset.updateFrom;generalize hPI:jo=PI;unfold setOb at *
    wp_walk
    subst hPI;refine fL Z ?_;refine aa (wpAny_runValue ?_);have Y:l<s.heap.objs.size:=aA O;have hh3:A.in1.in1.in1.handled=none:=by simp[hh]
    have hu3:A.in1.in1.in1.units<cB:=by show A.units+1+1+1<cB;lia
    have U:l≠(s.heap.push {cls:=.type "set",dict:=none,data:=.set #[] 0 (.fresh 0 0 (ledOf w))}).objs.size:=by
     rw[cV];exact Nat.ne_of_lt (Nat.lt_succ_of_lt Y)
    have hSI:s.heap.objs.size≠(s.heap.push {cls:=.type "set",dict:=none,data:=.set #[] 0 (.fresh 0 0 (ledOf w))}).objs.size:=by
     rw[cV];exact Nat.ne_of_lt (Nat.lt_succ_self _)
    have kp:TupKeep s.heap ((s.heap.push {cls:=.type "set",dict:=none,data:=.set #[] 0 (.fresh 0 0 (ledOf w))}).push {cls:=.type "list_iterator",data:=.fields #[.ref l,.int 0 0]}):=λb o e _=>ag _ (ag _ e)
    have hget:((s.heap.push {cls:=.type "set",dict:=none,data:=.set #[] 0 (.fresh 0 0 (ledOf w))}).push {cls:=.type "list_iterator",data:=.fields #[.ref l,.int 0 0]}).get? s.heap.objs.size
       =some (setOb #[] 0 (.fresh 0 0 (ledOf w))):=ag _ hS
    refine dZa D hh3 hu3 U hSI (cA (Nat.ne_of_lt Y)) hcs hb (items.size-0) 0 _ (by lia) (Nat.zero_le _) ⟨_,ar _ rfl,rfl,rfl⟩ (Z.push _) (L2.Paired.mapP hi λ_ _ q=>D.keepIs q kp)
     ⟨[],⟨⟨#[],0,.fresh 0 0 (ledOf w),D.fresh hget,rfl,.nil⟩,eT,λk=>by simp⟩⟩ ?hR
    case hR =>
     intro h' tk' ms hM B J;show aE _ _ _ _ _ _;refine ad ?_;show aE _ _ (ret ce) _ _ _;refine ad ⟨rfl,h',tk',ms,rfl,hM,kp.trans B,λb o hb e=>?_⟩;exact J b o (Nat.ne_of_lt hb) (by rw[cV];exact Nat.ne_of_lt (Nat.lt_succ_of_lt hb)) (ag _ (ag _ e))
   ·cases r2 with
    |error e=>exact G
    |ok fl2 =>
     cases fl2 with
     |ret r =>
      obtain⟨rfl,h',tk,ms,rfl,hM,B,J⟩:=G
      repeat (any_goals (first|assumption|wp_step))
      exact h _ _ _ hM B J
     |_=>exact G.elim
  |_=>exact hr.elim
theorem call_setK{κ:Type}[DecidableEq κ](D:SetKd prog w κ){A:bj}{E:ae->aj->Prop}{s:aj}{l:Addr}{items:Array ae}{ks:List κ}{Q:ae->aj->Prop}
  (hh:A.handled=none) (hu:A.units+8<cB) (hl:s.heap.IsList l items) (hi:bi (λv k=>D.is s.heap k v) items.toList ks) (hb:items.size+1<=300)
  (h:∀ (h':bu) (tk:Nat) ms,Mem D h' s.heap.objs.size ks (ledOf w) ms->TupKeep s.heap h' ->
   (∀b o,b<s.heap.objs.size->s.heap.get? b=some o->h'.get? b=some o)->Q (.ref s.heap.objs.size) {s with heap:=h',toks:=tk}) :
  aE (aF prog w) A (call (.type "set") [.ref l]) Q E s :=
 cZo D hh hu hl hi (cs:=ks) (λ_ h=>h) (by have:=ca hi;simp at this;lia) h
end
end ST
set_option maxHeartbeats 1000000
namespace L2
open PySem PySem.Spec PyProof.Rows
variable{α β:Type}
theorem cXv{H:Hp}{xs:List V}{us:List ae}{bs:List Bool}(p:bi (dB H) xs bs)(r:Vals xs us){i:Nat}{v:ae}(h:us[i]?=some v):∃b,bs[i]?=some b/\v=.bool b:=by
 have hl:=r.length;have hi:i<xs.length:=by
  rcases Nat.lt_or_ge i us.length with z|z
  ·omega
  ·rw[cx z] at h;cases h
 obtain⟨b,e,B⟩:=Paired.get' p (af hi);obtain⟨u,eu,q⟩:=r.get (af hi);rw[h] at eu;cases eu;have j:xs[i]=V.bl b:=B;rw[j] at q;exact⟨b,e,q⟩
theorem cQh{h h':bu}{o:Obj}(hk:∀b x,b∉[h.objs.size]->(h.push o).get? b=some x->h'.get? b=some x):∀b x,h.get? b=some x->h'.get? b=some x:=λb x e =>
 hk b x (λz=>by have:=aH.mp z;subst this;exact Nat.lt_irrefl _ (aA e)) (ag _ e)
theorem cZp(bs:List Bool):∀n,n=bs.length->((aI n).all λi=>(bs[i]?).getD true)=bs.all id:=by
 rintro n rfl;rw[c5,b7,b7];refine⟨λh b q=>?_,λh i hi=>?_⟩
 ·obtain⟨i,hi,rfl⟩:=bh q
  have:=h i (ax.mpr hi)
  rwa [af hi] at this
 ·have j:=ax.mp hi;rw[af j];exact h _ (d0 j)
theorem cZq(bs:List Bool):∀n,n=bs.length->((aI n).any λi=>(bs[i]?).getD false)=bs.any id:=by
 rintro n rfl;rw[c5,jE,jE];refine⟨λ⟨i,hi,h⟩=>?_,λ⟨b,q,h⟩=>?_⟩
 ·have j:=ax.mp hi;rw[af j] at h;exact⟨_,d0 j,h⟩
 ·obtain⟨i,hi,rfl⟩:=bh q;exact⟨i,ax.mpr hi,by rw[af hi];exact h⟩
section
variable{X:Cx}
theorem cXw(hc:X.calm=true):CallR X (.builtin "all") (λxs H Q=>∃x bs,xs=[x]/\dL X.K dB H x bs/\Q (.bl (bs.all id)) H):=by
 intro pins s σ H xs us Q I r h;obtain⟨x,bs,rfl,⟨a,ys,rfl,G,p⟩,q⟩:=h;obtain⟨u,rfl,rx⟩:=aXx r;cases rx;obtain⟨j,z,pl,_⟩:=I.list G;obtain⟨o,J,_⟩:=id pl.isList;refine PySem.call_all_walk (fL pl.isList ⟨_,_,_,_,_,_,λi=>(bs[i]?).getD true,rfl,PySem.Walks.list (A:=X.A.in1) (by have:=I.ok.hd hc;simp[this]) _ a (Nat.ne_of_lt (aA J)) j.toArray,⟨⟨_,ar _ rfl,rfl,rfl⟩,pl.isList.push _⟩,λi v s' U Y O B=>?_,λh' D L=>?_⟩)
 ·obtain⟨b,e,rfl⟩:=cXv p z (show j[i]?=some v by simpa using O)
  simp only[e,Option.getD_some] at B;exact dF B
 ·rw[cZp bs _ (by rw[aq,<- z.length,p.length])]
  exact⟨.bl _,H,I.kept (t':=D) (cQh L),rfl,q⟩
theorem cXx(hc:X.calm=true):CallR X (.builtin "any") (λxs H Q=>∃x bs,xs=[x]/\dL X.K dB H x bs/\Q (.bl (bs.any id)) H):=by
 intro pins s σ H xs us Q I r h;obtain⟨x,bs,rfl,⟨a,ys,rfl,G,p⟩,q⟩:=h;obtain⟨u,rfl,rx⟩:=aXx r;cases rx;obtain⟨j,z,pl,_⟩:=I.list G;obtain⟨o,J,_⟩:=id pl.isList;refine PySem.call_any_walk (fL pl.isList ⟨_,_,_,_,_,_,λi=>(bs[i]?).getD false,rfl,PySem.Walks.list (A:=X.A.in1) (by have:=I.ok.hd hc;simp[this]) _ a (Nat.ne_of_lt (aA J)) j.toArray,⟨⟨_,ar _ rfl,rfl,rfl⟩,pl.isList.push _⟩,λi v s' U Y O B=>?_,λh' D L=>?_⟩)
 ·obtain⟨b,e,rfl⟩:=cXv p z (show j[i]?=some v by simpa using O)
  simp only[e,Option.getD_some] at B;exact dF B
 ·rw[cZq bs _ (by rw[aq,<- z.length,p.length])]
  exact⟨.bl _,H,I.kept (t':=D) (cQh L),rfl,q⟩
def SzOk(ds:List α)(n:Nat):Prop:=n<=ds.length/\(n=ds.length↔ds.Nodup)
theorem aJb[DecidableEq α]:∀(ds ms:List α),ms.Nodup->ms⊆ds->ds.length<=ms.length->ds.Nodup
 |[],_,_,_,_=>eT
 |x::xs,ms,nd,sub,le=>by
  have q:x∉xs:=λq=>by
   have:ms⊆xs:=λk B=>by
    rcases aD.mp (sub B) with rfl|z
    ·exact q
    ·exact z
   have:=nd.length_le_of_subset this
   simp only[aK] at le;omega
  refine bE.mpr ⟨q,aJb xs (ms.erase x) (nd.erase x) (λk B=>?_) ?_⟩
  ·have j:=(fo nd).mp B;exact(aD.mp (sub j.2)).resolve_left j.1
  ·simp only[aK] at le
   have:=List.length_erase (a:=x) (l:=ms)
   split at this <;> omega
theorem eQj[DecidableEq α]{ds ms:List α}(nd:ms.Nodup)(h:∀k,k∈ms↔k∈ds):SzOk ds ms.length:=by
 have sub:ms⊆ds:=λk q=>(h k).mp q;have le:ms.length<=ds.length:=nd.length_le_of_subset sub;refine⟨le,λe=>?_,λj=>Nat.le_antisymm le (j.length_le_of_subset λk q=>(h k).mpr q)⟩;exact aJb ds ms nd sub (by omega)
theorem dZc{P:au}{w:aN}{h:bu}{H:Hp}{K:Fg}{b:Addr}{xs:List V}{its:List ae}{k:List Str}(p:bi (dS H) xs k)(r:Vals xs its)(t:i8 h b its.toArray):ST.TK P w h k (.ref b):=by
 obtain⟨o,q,z,n,hd⟩:=t;refine⟨b,rfl,o,its.toArray,n,q,z,hd,?_⟩;show ItemsAre (eN P w) k its;have go:∀{xs:List V}{its:List ae}{k:List Str},bi (dS H) xs k->Vals xs its->ItemsAre (eN P w) k its:=by
  intro xs its k p r
  induction p generalizing its with
  |nil=>cases r;first|exact trivial|exact .nil
  |cons e _ j =>
   cases r with
   |cons r t =>
    cases e;obtain⟨B,rfl⟩:=r
    first
     |exact⟨by simp[eN,fh],j t⟩
     |exact .cons (by simp[eN,fh]) (j t)
 exact go p r
end
end L2
set_option maxHeartbeats 4000000
namespace L2
open PySem PySem.Spec PyProof.Rows
section
variable{prog:au}{w:aN}{A:bj}{E:ae->aj->Prop}{s:aj}
theorem eQk{it t:Addr}{i:Nat}{items:Array ae}{x:ae}{Q:ae->aj->Prop}(hit:s.heap.IsTupleIter it t i)(ht:s.heap.IsTuple t items)(hx:items[i]?=some x)
  (hQ:∀h',h'.IsTupleIter it t (i+1)->c9 it s.heap h'->Q x {s with heap:=h'}):aE (aF prog w) A (i6 (.ref it)) Q E s:=by
 obtain⟨o,j,B,hd⟩:=id hit;obtain⟨ol,q,_,nl,z⟩:=ht;have ne:¬ ((c8 t==ce)=true):=bz;refine aa (cL (name:=bo "__next__") hit.typeIs F.slot_tuple_iterator_next (b6 F.slot_tuple_iterator_next hit.typeIs F.entry_tuple_iterator_next ?_ (F.args_tuple_iterator_next_1 _)));refine aa (m:=field (.ref it) 0) (ef j hd (x:=.ref t) rfl ?_);refine(if_neg ne).symm▸(aa (m:=field (.ref it) 1) (ef j hd (x:=.int i 0) rfl ?_));refine aa (m:=jF (.ref t)) (dJ q z ?_);simp only[b5,hx];refine aa (wpAny_setField j hd (by simp) (ad ⟨x,rfl,ad (hQ _ ⟨_,cH _ j (Obj.isFreed_of_fields (Obj.data_mapFields hd _)),(Obj.cls_mapFields ..).trans B,?_⟩ (cb ..))⟩))
 rw[Obj.data_mapFields hd];simp[fI]
theorem dXr{it t:Addr}{i:Nat}{items:Array ae}{Q:ae->aj->Prop}(hh:A.handled=none)(hit:s.heap.IsTupleIter it t i)(ht:s.heap.IsTuple t items)(hx:items[i]?=none)
  (hE:∀h' e,bu.ExtBut it s.heap h'->(∃o,h'.get? e=some o/\o.cls=.type "StopIteration")->E (.ref e) {s with heap:=h'}):aE (aF prog w) A (i6 (.ref it)) Q E s:=by
 obtain⟨o,q,B,hd⟩:=id hit;obtain⟨ol,j,_,nl,z⟩:=ht;have ne:¬ ((c8 t==ce)=true):=bz;refine aa (cL (name:=bo "__next__") hit.typeIs F.slot_tuple_iterator_next (b6 F.slot_tuple_iterator_next hit.typeIs F.entry_tuple_iterator_next ?_ (F.args_tuple_iterator_next_1 _)));refine aa (m:=field (.ref it) 0) (ef q hd (x:=.ref t) rfl ?_);refine(if_neg ne).symm▸(aa (m:=field (.ref it) 1) (ef q hd (x:=.int i 0) rfl ?_));refine aa (m:=jF (.ref t)) (dJ j z ?_);simp only[b5,hx];refine aa (dG (aa (wpAny_setField q hd (by simp) (aa (m:=newExc (.type "StopIteration") []) ?_))))
 simp only[newExc,newTuple];refine aa (bA (aa (m:=iR _ _) (jd (a:=ce) (by first|rfl|(simp only[iR];rfl)) (bA ?_ (by size_fits)))) (by size_fits))
 simp only[raiseNew];refine aa (wpAny_handled ?_)
 first|rw[show A.in1.handled=none from hh]|rw[hh]
 exact aa (ad (wpAny_throw (hE _ _ (((cb ..).extBut.push _).push _) ⟨_,ar _ rfl,rfl⟩)))
theorem cXy(hh:A.handled=none)(it l:Addr)(hne:l≠it)(items:Array ae):Draws prog w A it [it,l] items.size (λi v=>items[i]?=some v) (λi h=>h.IsTupleIter it l i/\h.IsTuple l items) where
 live:=λ_ _ st=>let ⟨o,q,_⟩:=st.1;⟨o,q⟩
 frame:=λ_ _ _ st B=>⟨let ⟨o,q,r⟩:=st.1;⟨o,B it (by simp) o q,r⟩,let ⟨o,q,r⟩:=st.2;⟨o,B l (by simp) o q,r⟩⟩
 item:=λi s Q E hi st D=>eQk st.1 st.2 (x:=items[i]) (by simp[hi]) λh' z j=>D _ h' s.toks (by simp[hi]) ⟨z,st.2.extBut j.extBut hne⟩ j
 done:=λs Q E st G=>dXr hh st.1 st.2 (by simp) G
theorem eJx(l:Addr)(items:Array ae)(n:Nat)(dct:Option Addr)(sl:Array (Option ae)) :
  Meets (cv.«enumerate.__new__» ⟨[.type "enumerate",.ref l],[]⟩) (λ_ R s=>s.heap.get? l=some { cls:=.type "tuple",dict:=dct,data:=.seq items n,slots:=sl } /\
   R (.ok (.ret (.ref (s.heap.push {cls:=.type "tuple_iterator",data:=.fields #[.ref l,.int 0 0]}).objs.size)))
    {s with heap:=(s.heap.push {cls:=.type "tuple_iterator",data:=.fields #[.ref l,.int 0 0]}).push {cls:=.type "enumerate",data:=.fields #[.none,.bool false,.ref s.heap.objs.size,fI 0,.none,.none]}}) :=
 .of_wp λprog w A R s h=>by
  obtain⟨B,g,d,z,os⟩:=s;obtain⟨hl,h⟩:=h;have j:=sub_enumerate;have q:bu.IsTuple (aj.heap ⟨B,g,d,z,os⟩) l items:=⟨_,hl,rfl,n,rfl⟩
  wp_walk using fb hl
  refine wpAny_stack_any λst=>ad ?_
  split
  ·rename_i c _ _ _ _ _;cases (c==dE "enumerate") <;>
   ·wp_walk using fb hl,gA q
    exact⟨_,rfl,h⟩
  ·wp_walk using fb hl,gA q
   exact⟨_,rfl,h⟩
theorem eQl{l:Addr}{items:Array ae}{Q:ae->aj->Prop}(hT:s.heap.IsTuple l items)
  (h:∀h',IsEnum h' (s.heap.objs.size+1) s.heap.objs.size 0 .none->h'.IsTupleIter s.heap.objs.size l 0->(∀b o,s.heap.get? b=some o->h'.get? b=some o)->Q (.ref (s.heap.objs.size+1)) {s with heap:=h'}) :
  aE (aF prog w) A (call (.type "enumerate") [.ref l]) Q E s:=by
 obtain⟨⟨c,z,dt,sl⟩,hl,q,n,hd⟩:=hT;replace q:c=.type "tuple":=q;replace hd:dt=.seq items n:=hd;subst q hd;refine callType_new F.called_enumerate (by decide) (F.typeCall_enumerate_1 _) (F.newCall_enumerate_1 _) (λobj=>F.args_object_init_2 obj _) F.entry_enumerate_new (eJx l items n z sl) ⟨hl,?_⟩
 generalize j:({cls:=.type "tuple_iterator",data:=.fields #[.ref l,.int 0 0]}:Obj)=o1;have B:(s.heap.push o1).objs.size=s.heap.objs.size+1:=cV ..;have he:=ar (s.heap.push o1) (o:={cls:=.type "enumerate",data:=.fields #[.none,.bool false,.ref s.heap.objs.size,fI 0,.none,.none]}) rfl;have hi:(s.heap.push o1).get? s.heap.objs.size=some o1:=ar _ (by rw[<- j];rfl)
 show _/\_;rw[B] at he ⊢;exact⟨⟨_,he,rfl⟩,h _ he ⟨o1,ag _ hi,by rw[<- j],by rw[<- j];rfl⟩ λb o x=>ag _ (ag _ x)⟩
end
def Ite(K:Fg)(a:Addr):It:=⟨λi H=>∃xs x,SqT K H a xs/\xs[i]?=some x,λi H x H'=>∃p y,H p=none/\x=.ref p/\H'=upd H p (.tup [.int i,y])/\∀xs,SqT K H a xs->xs[i]?=some y,λi H=>∃xs,SqT K H a xs/\xs.length<=i⟩
theorem eQm{P:au}{w:aN}{K:Fg}{elts:List Expr}{x1:Nat}{pos:Pos}(a it e:Addr)(hei:e≠it)(hae:a≠e)(hai:a≠it):Turn P w K (.Tuple elts x1 pos) (Ite K a) [e,it] e (λi h=>(∃old,IsEnum h e it i old)/\h.IsTupleIter it a i) where
 mem:=by simp
 obj:=λi h st b B=>by
  obtain⟨⟨old,he⟩,o,O,hc,hd⟩:=st;rcases aD.mp B with rfl|B
  ·exact⟨_,he,λv z=>by cases z⟩
  ·have:=aH.mp B
   subst this;exact⟨o,O,λv z=>by rw[hd] at z;cases z⟩
 keep:=λi h h' st k=>by
  obtain⟨⟨old,he⟩,o,O,r⟩:=st;exact⟨⟨old,k e (by simp) _ he⟩,o,k it (by simp) _ O,r⟩
 item:=by
  intro X hP hw hK hc i pins s σ H E I hf st hg;subst hP hw hK;obtain⟨xs,x,hq,hx⟩:=hg;obtain⟨its,rv,p,hz⟩:=I.tuple hq;obtain⟨u,hu,ru⟩:=rv.get hx;obtain⟨⟨old,he⟩,G⟩:=st;have hi:i<its.toArray.size:=by
   rcases Nat.lt_or_ge i its.toArray.size with z|z
   ·exact z
   ·rw[aq] at z;rw[cx z] at hu;cases hu
  have hh:X.A.in1.handled=none:=by have:=I.ok.hd hc;simp[this]
  have hT:s.heap.IsTuple a its.toArray:=p;refine wpAny_pyNext_enum_itemD (cXy hh it a hai its.toArray) he ⟨G,hT⟩ hi hei (by simp;exact⟨hei,λz=>hae z.symm⟩) λy h' Y hy O hs' hT' hsz hk=>⟨_,rfl,?_⟩
  have hy':y=u:=by
   have:its[i]?=some y:=by simpa using hy
   rw[hu] at this;exact(aO this).symm
  subst hy';refine wpAny_letOwnedTupleGo_enum O λh2 he2 L=>?_;have fe:=hf e (by simp)
  have fi:=hf it (by simp)
  have Z:∀b o,b≠e->b≠it->s.heap.get? b=some o->h2.get? b=some o:=λb o n1 n2 g=>(L.2 b n1).trans (hk b o n1 n2 g);have hel:e<s.heap.objs.size:=aA he;have j:H s.heap.objs.size=none:=I.hok.fresh (Nat.le_refl _);have nT:∀b o,s.heap.get? b=some o->b≠s.heap.objs.size:=λb o g=>Nat.ne_of_lt (aA g);have nH:∀b u,H b=some u->b≠e/\b≠it:=λb u g=>⟨λz=>(by rw[z,fe.1] at g;cases g),λz=>(by rw[z,fi.1] at g;cases g)⟩
  have J:h2.get? s.heap.objs.size=some {cls:=.type "tuple",data:=.seq #[.int i Y,y]}:=(L.2 _ (Nat.ne_of_gt hel)).trans hT';have hok:HOk X.prog X.w (upd H s.heap.objs.size (.tup [.int i,x])) h2:=λb ob g=>by
   by_cases B:b=s.heap.objs.size
   ·subst B;rw[aQ8] at g;cases g;refine⟨by rw[bK];show 2<=_;decide,[.int i Y,y],.cons ⟨Y,rfl⟩ (.cons ru .nil),⟨_,J,rfl,0,rfl⟩,λo e=>by rw[J] at e;cases e;rfl⟩
   ·rw[upd_ne B] at g;refine(I.hok b ob g).stay (λc w' D q=>?_) (λc q=>?_) λc ys q=>?_
    ·rcases D with rfl|D
     ·exact Z _ _ (nH _ _ g).1 (nH _ _ g).2 q
     ·exact Z _ _ (nH _ _ D).1 (nH _ _ D).2 q
    ·rw[upd_ne (aQ7 q j)];exact q
    ·rw[upd_ne (aQ7 q j)];exact q
  have un:Un (frs X.stack) [e,it] H (upd H s.heap.objs.size (.tup [.int i,x])) s.heap h2:=by
   have U:∀{b:Addr},b∉[e,it]->b≠e/\b≠it:=λB=>⟨λz=>B (by simp[z]),λz=>B (by simp[z])⟩
   exact⟨λb o g _ _ B=>Z b o (U B).1 (U B).2 g,λb o g _ _ B=>⟨o.slots,Z b o (U B).1 (U B).2 g⟩,λb o g n _=>by rw[upd_ne (nT b o g)];exact n,λb o g B=>⟨o,Z b o (U B).1 (U B).2 g⟩,
    λb ys g=>by rw[upd_ne (aQ7 g j)];exact g,λb o v g=>by rw[upd_ne (aQ7 g j)];exact g,λb ps g=>⟨#[],by rw[upd_ne (aQ7 g j),g];simp⟩⟩
  have I2:Inv X pins σ (upd H s.heap.objs.size (.tup [.int i,x])) {s with heap:=h2,toks:=Y+1}:=I.call' (s':={s with heap:=h2,toks:=Y+1}) rfl un hok I.bare λb B=>by
   rcases aD.mp B with rfl|B
   ·exact⟨fe.2.2.2.1,fe.2.1,fe.2.2.2.2.1,fe.2.2.2.2.2⟩
   ·have:=aH.mp B
    subst this;exact⟨fi.2.2.2.1,fi.2.1,fi.2.2.2.2.1,fi.2.2.2.2.2⟩
  refine⟨.ref s.heap.objs.size,_,I2,rfl,⟨_,x,j,rfl,rfl,λys hy=>by rw[I.tuple_inj hy hq];exact hx⟩,⟨⟨_,by simpa using he2⟩,?_⟩,λb B=>?_⟩
  ·obtain⟨o,g,r⟩:=hs'.1;exact⟨o,(L.2 it (cA hei)).trans g,r⟩
  ·have hb':b<s.heap.objs.size:=by
    rcases aD.mp B with rfl|B
    ·exact hel
    ·have:=aH.mp B
     subst this;obtain⟨o,g,_⟩:=G;exact aA g
   rw[upd_ne (Nat.ne_of_lt hb')];exact(hf b B).1
 done:=by
  intro X hP hw hK hc i pins s σ H E I hf st hg;subst hP hw hK;obtain⟨xs,hq,hx⟩:=hg;obtain⟨its,rv,p,hz⟩:=I.tuple hq;obtain⟨⟨old,he⟩,G⟩:=st;have hl:=rv.length;have hh:X.A.in1.handled=none:=by have:=I.ok.hd hc;simp[this]
  have hT:s.heap.IsTuple a its.toArray:=p;obtain⟨f0,f1,f2,f3,f4,f5⟩:=hf it (by simp)
  have hT2:s.TypeIs (.ref e) "enumerate":=⟨_,he,rfl⟩;unfold eV;refine aa (ii (cL (name:=bo "__next__") hT2 F.slot_enumerate_next (b6 F.slot_enumerate_next hT2 F.entry_enumerate_next ?_ (F.args_enumerate_next_1 _))));refine aa (m:=field (.ref e) 2) (ef he rfl (x:=.ref it) rfl (aa (dXr hh G hT (by simp;lia) λh' x he' hx'=>?_)))
  obtain⟨o,O,D⟩:=hx';refine aa (hZ (T:="StopIteration") (b:=true) ⟨o,O,D⟩ isSubtype_stop ?_);exact ad ⟨rfl,I.turned (t':=s.toks) (λb o B g=>he' b o B g) f0 f1 f3 f4 f5⟩
 self:=λA i s Q E st h=>by
  obtain⟨⟨old,he⟩,_⟩:=st;exact wpAny_pyIter_enum he h
section
variable{X:Cx}
def iEnT(K:Fg)(ta:TA):TI:=fun σ H R=>ta σ H λvs H1=>∃a,vs=[.ref a]/\(∃xs,SqT K H1 a xs)/\R (Ite K a) H1
theorem fXs{e:Expr}{ta:TA}{p pos:Pos}{elts:List Expr}{x1:Nat}{tpos:Pos}(hg:Gl X "enumerate")(hm:X.mg "enumerate"=none)(ha:PA X [e] ta)(hs:aC [e] X.env=[(false,eval e X.env)]:=by rfl) :
  PI X (.Tuple elts x1 tpos) (.Call (.Name "enumerate" p) [e] [] pos) (iEnT X.K ta):=by
 intro pins s σ H R I h;refine Call_ (ld_blt I hg hm PyProof.Rows.boot_enumerate (dD (thn (ha pos pins s σ H _ I h) λus s1 ⟨vs,H1,j,G,J⟩=>?_) hs rfl));obtain⟨a,rfl,⟨xs,L⟩,q⟩:=J;obtain⟨u,rfl,rx⟩:=aXx G;cases rx;obtain⟨B,U,pl,Y⟩:=j.tuple L;have z:a<s1.heap.objs.size:=by obtain⟨o,e,_⟩:=id pl;exact aA e
 refine eQl (show s1.heap.IsTuple a B.toArray from pl) λh' he hi O=>wpAny_pyIter_enum he ?_
 refine⟨s1.heap.objs.size+1,[s1.heap.objs.size+1,s1.heap.objs.size],_,_,H1,rfl,j.kept (t':=s1.toks) O,eQm a s1.heap.objs.size (s1.heap.objs.size+1) (Nat.succ_ne_self _) (Nat.ne_of_lt (Nat.lt_succ_of_lt z)) (Nat.ne_of_lt z),⟨⟨_,he⟩,hi⟩,λb D=>?_,q⟩;rcases aD.mp D with rfl|D
 ·exact j.fpOk (Nat.le_succ _) (j.hok.fresh (Nat.le_succ _))
 ·have:=aH.mp D
  subst this;exact j.fpOk (Nat.le_refl _) (j.hok.fresh (Nat.le_refl _))
end
end L2
namespace HT
open PySem PyProof.Rows
def ltS(a b:Str):Bool:=decide (a.cps.toList<b.cps.toList)
def lexS:List Str->List Str->Bool
 |[],[]=>false
 |[],_::_=>true
 |_::_,[]=>false
 |x::xs,y::ys=>if x=y then lexS xs ys else ltS x y
theorem lexS_cons(x y:Str)(xs ys:List Str):lexS (x::xs) (y::ys)=if x=y then lexS xs ys else ltS x y:=rfl
theorem aJc:lexS [] []=false:=rfl
theorem lexS_nil_cons(y:Str)(ys:List Str):lexS [] (y::ys)=true:=rfl
theorem lexS_cons_nil(x:Str)(xs:List Str):lexS (x::xs) []=false:=rfl
abbrev SAre:List ae->List Str->Prop:=bi λv x=>∃t,v=.str x t
theorem SAre.len{l:List ae}{m:List Str}(h:SAre l m):l.length=m.length:=ca h
theorem cXz(A:bj)(s:aj)(a:Str)(t:Tok)(c:Str)(u:Tok):∃e,dh A s (.str a t) (.str c u) e/\(e=true↔a=c) :=
 ⟨(a==c),iS a t c u,by simp⟩
theorem eQn(A:bj)(s:aj)(a:Str)(t:Tok)(c:Str)(u:Tok)(prog:au)(w:aN)(E:ae->aj->Prop)(Q:ae->aj->Prop)(h:Q (.bool (ltS a c)) s) :
  aE (aF prog w) A (richCompare .Lt (.str a t) (.str c u)) Q E s :=
 (ky h:aE (aF prog w) A (cy .Lt (.str a t) (.str c u)) Q E s)
section
open PySem.SeqAt
open PySem.AutoSeq1 (wpAny_loadPart')
open PySem.MeetsSeq PySem.MeetsSeq2 PySem.MeetsSeq3
theorem tuple_lt_strs(l b:Addr)(items items2:Array ae)(n n2:Nat)(dd dd2:Option Addr)(sl sl2:Array (Option ae))(ns ms:List Str)(hi:SAre items.toList ns)(hj:SAre items2.toList ms) :
  Meets (cv.«tuple.__lt__» ⟨[.ref l,.ref b],[]⟩)
   (λ_ R s=>s.heap.get? l=some { cls:=.type "tuple",dict:=dd,data:=.seq items n,slots:=sl }/\s.heap.get? b=some { cls:=.type "tuple",dict:=dd2,data:=.seq items2 n2,slots:=sl2 } /\
    R (.ok (.ret (.bool (lexS ns ms)))) s) :=
 .of_wp λprog w A R s h=>by
  obtain⟨Y,g,d,U,os⟩:=s;obtain⟨hl,hb,h⟩:=h;have f2:=jr;have z1:items.size=ns.length:=by rw[<- hi.len];simp
  have z2:items2.size=ms.length:=by rw[<- hj.len];simp
  wp_walk using fb hl,fb hb,hW _ (λrest b s'=>b.1=none/\s'=⟨Y,g,d,U,os⟩/\∃ (vs ws:List ae) (j z:List Str),rest=vs.zip ws /\
   SAre vs j/\SAre ws z/\j.length+items2.size=z.length+items.size/\R (.ok (.ret (.bool (lexS j z)))) ⟨Y,g,d,U,os⟩) _
  case turn =>
   rintro⟨y,x⟩ rest b s' ⟨J,rfl,vs,ws,j,z,hz,hvi,hwi,hlen,D⟩;cases hvi with
   |nil=>rw[jf] at hz;cases hz
   |@cons va a _ _ ha O =>
    obtain⟨t,rfl⟩:=ha;cases hwi with
    |nil=>rw[iT] at hz;cases hz
    |@cons vc c _ _ hc L =>
     obtain⟨u,rfl⟩:=hc;rw[d6] at hz;injection hz with Z G
     injection Z with hy hx
     subst hy hx;rw[lexS_cons] at D;simp only[aK] at hlen;obtain⟨e,he,B⟩:=cXz A.in1 ⟨Y,g,d,U,os⟩ a t c u;refine aa (he prog w _ _ ?_);cases e with
     |true =>
      rw[if_pos (B.mp rfl)] at D
      wp_walk
      exact⟨rfl,rfl,_,_,_,_,G,O,L,by lia,D⟩
     |false =>
      rw[if_neg (λq=>absurd (B.mpr q) bz)] at D;have hri:=eQn A.in1 ⟨Y,g,d,U,os⟩ a t c u prog w
      wp_walk using hri
      exact⟨_,rfl,by simpa using D⟩
  case fin =>
   rintro⟨b1,b2⟩ s' ⟨J,rfl,vs,ws,j,z,hz,hvi,hwi,hlen,D⟩;simp only at J;subst J;have hv:lexS j z=decide (items.size<items2.size):=by
    cases hvi with
    |nil =>
     cases hwi with
     |nil =>
      simp only[cu] at hlen;rw[aJc];exact(decide_eq_false (by lia)).symm
     |cons hc hw =>
      simp only[cu,aK] at hlen;rw[lexS_nil_cons];exact(decide_eq_true (by lia)).symm
    |cons ha hv =>
     cases hwi with
     |nil =>
      simp only[cu,aK] at hlen;rw[lexS_cons_nil];exact(decide_eq_false (by lia)).symm
     |cons hc hw =>
      rw[d6] at hz;cases hz
   rw[hv] at D
   wp_walk
   exact⟨_,rfl,by simpa [gY] using D⟩
  case h =>
   exact⟨rfl,rfl,items.toList,items2.toList,ns,ms,rfl,hi,hj,by lia,h⟩
end
section
variable{prog:au}{w:aN}{A:bj}{E:ae->aj->Prop}{s:aj}
theorem lt_tupStrs{l b:Addr}{items items2:Array ae}{ns ms:List Str}{Q:ae->aj->Prop}(hl:i8 s.heap l items)(hb:i8 s.heap b items2)(hi:SAre items.toList ns)(hj:SAre items2.toList ms)
  (hu:A.units<cB) (h:Q (.bool (lexS ns ms)) s):aE (aF prog w) A (cy .Lt (.ref l) (.ref b)) Q E s:=by
 obtain⟨⟨cls,dd,data,sl⟩,D,G,n,hd⟩:=id hl;obtain⟨⟨J,B,data2,z⟩,j,q,L,hd2⟩:=id hb;simp only at G hd q hd2;subst G hd q hd2;exact richCompare_meets_room (op:=.Lt) ⟨_,D,rfl⟩ ⟨_,j,rfl⟩ g7 jW (jG _ _) (tuple_lt_strs l b items items2 n L dd B sl z ns ms hi hj)
  ⟨D,j,show kD (lexS ns ms)≠Value.notImplemented/\Q (.bool (lexS ns ms)) s from⟨(λx=>nomatch x),h⟩⟩ hu
end
end HT
namespace L2
open PySem PySem.Spec PyProof.Rows
theorem aXj{H:Hp}:∀{xs:List V}{us:List ae}{ds:List Str},bi (dS H) xs ds->Vals xs us->HT.SAre us ds
 |_,_,_,.nil,.nil=>.nil
 |_,_,_,.cons p q,.cons r t=>by
  cases p;exact .cons r (aXj q t)
def rLtS(K:Fg):R2:=λx y H Q=>∃d e,dT K dS H x d/\dT K dS H y e/\Q (.bl (HT.lexS d e)) H
theorem eJy{X:Cx}(hu:X.A.units<cB):OpR X (cy .Lt) (rLtS X.K):=by
 intro pins s σ H x y v u Q I rx ry h;obtain⟨d,e,⟨a,xs,rfl,U,G⟩,⟨b,ys,rfl,O,D⟩,q⟩:=h;cases rx;cases ry;obtain⟨L,B,J,_⟩:=I.tuple U;obtain⟨j,z,p2,_⟩:=I.tuple O;exact HT.lt_tupStrs J p2 (aXj G B) (aXj D z) hu ⟨.bl (HT.lexS d e),H,I,rfl,q⟩
end L2
set_option maxHeartbeats 1000000
namespace L2
open PySem PySem.Spec PyProof.Rows
variable{α β γ:Type}
theorem nd_(l:List Str)(h:l.Nodup:=by decide +kernel):l.Nodup:=h
theorem lt64{k n:Nat}{A:bj}(r:Room k A)(h:n<=64:=by decide):A.units+n<cB:=by have:=r.units;omega
section
variable{X:Cx}{K:Fg}{tg:Expr}{a:Expr}{ta:TE}
theorem eQo(hK:X.K=K:=by rfl):SlR X (rSlT K):=hK▸eJj
theorem dZd(hK:X.K=K:=by rfl):SlR X (rSlL K):=hK▸eQ8
theorem dZe(hK:X.K=K:=by rfl):OpR X (eD .Add) (eQ6 K):=hK▸eQ7
theorem bJg(hK:X.K=K:=by rfl):CallR X (.type "tuple") (λxs H Q=>∃p ys,xs=[.ref p]/\((SqL K H p ys/\∀l,H l=none->Q (.ref l) (upd H l (.tup ys)))\/(SqT K H p ys/\Q (.ref p) H))):=hK▸call_tuple_of
theorem cJ0(hK:X.K=K:=by rfl)(hc:X.calm=true:=by rfl):CallR X (.builtin "all") (λxs H Q=>∃x bs,xs=[x]/\dL K dB H x bs/\Q (.bl (bs.all id)) H):=hK▸cXw hc
theorem cJ1(hK:X.K=K:=by rfl)(hc:X.calm=true:=by rfl):CallR X (.builtin "any") (λxs H Q=>∃x bs,xs=[x]/\dL K dB H x bs/\Q (.bl (bs.any id)) H):=hK▸cXx hc
theorem eQp(hu:X.A.units<cB)(hK:X.K=K:=by rfl):OpR X (cy .Lt) (rLtS K):=hK▸eJy hu
theorem cJ2(ha:PE X a ta)(he:∀whole,isTrue a X.env whole=(do let v <- whole;fX a.pos;fW [v] (truthy v)))(hK:X.K=K:=by rfl):PT X a (fun σ H Q=>ta σ H λx H'=>∃k,TruV K x H' k/\Q k H'):=by subst hK;exact dQs ha he
theorem eJz{e:Expr}{ta:TA}{p pos:Pos}{elts:List Expr}{x1:Nat}{tpos:Pos}(hg:Gl X "enumerate")(hm:X.mg "enumerate"=none)(ha:PA X [e] ta)(hs:aC [e] X.env=[(false,eval e X.env)]:=by rfl)(hK:X.K=K:=by rfl) :
  PI X (.Tuple elts x1 tpos) (.Call (.Name "enumerate" p) [e] [] pos) (iEnT K ta):=by subst hK;exact fXs hg hm ha hs
end
end L2
set_option maxHeartbeats 4000000
namespace KS
open PySem PySem.W PyProof.Rows
variable{lt:Nat->Nat->Bool}{n:Nat}
end KS
set_option maxHeartbeats 1000000
namespace ST
open PySem PySem.SetTable PySem.Spec PyProof.Rows
theorem bQm:entryFor table "set.__iter__"=some cv.«frozenset.__iter__»:=entryFor_alias (id':="frozenset.__iter__") (by kernel_rfl) rfl (by decide +kernel) (by kernel_rfl)
theorem slot_setit_next:Slot "set_iterator" "__next__" "set_iterator.__next__" :=
 .of (owner:="set_iterator") (n:="__next__") (by rw[typeLookup_type,builtinLookup_eq_fast];kernel_rfl) (by decide +kernel) (by decide +kernel) (by decide +kernel)
  (by first|exact .inl (by decide +kernel)|exact .inr (by decide +kernel)) (by rw[isSubtype_type];kernel_rfl)
theorem aJi:entryFor table "set_iterator.__next__"=some cv.«set_iterator.__next__»:=entryFor_of_tree (by kernel_rfl)
theorem bQ4(a:ae):argsOk "set_iterator.__next__" ⟨[a],[]⟩:=by unfold argsOk;kernel_rfl
theorem dZf:typeLookup (.type "set") "__len__"=pure (some (.builtin "set.__len__")):=by rw[typeLookup_type,builtinLookup_eq_fast];kernel_rfl
section
variable{prog:au}{w:aN}{A:bj}{E:ae->aj->Prop}{s:aj}
theorem eQq{p:Addr}{es:Array (Int×ae)}{ep:Nat}{t:a8}{Q:Bool->aj->Prop}(ho:s.heap.get? p=some (setOb es ep t))(h:Q false s):aE (aF prog w) A (iD (.ref p)) Q E s:=by
 have j:s.TypeIs (.ref p) "set":=⟨_,ho,rfl⟩;unfold iD;refine aa (ix j dZf ?_);dsimp only;have z:splitId "set.__len__"=some ("set", "__len__"):=by decide +kernel
 rw[z];dsimp only;refine aa (hZ (b:=true) j (by rw[isSubtype_type];kernel_rfl) ?_)
 rw[if_neg (show ¬ ((!true)=true) by decide)]
 refine iy (λq=>?_) (λq=>absurd (by decide +kernel) q)
 refine aa (gJ j ?_);exact ad h
theorem bZ1{α:Type}{l:List α}{i:Nat}(h:i<l.length):(l[i]::l.eraseIdx i).Perm l:=by
 have e:l=l.take i++l[i]::l.drop (i+1):=by
  rw[<- cQ h,bJ]
 rw[List.eraseIdx_eq_take_drop_succ];refine eQ.symm.trans ?_;rw[<- e]
theorem eQr{n:Nat}{Q:Nat->aj->Prop}(hn:n≠0)(h:∀i,i<n->Q i {s with drawn:=s.drawn.bump .order}):aE (aF prog w) A (choose .order n) Q E s:=fun Γ p hΓ=>by
 show Sem.wp _ _ (.choose .order n .pure) _ _ _ _;rw[Sem.wp_choose];exact⟨hn,h _ (Nat.mod_lt _ (Nat.pos_of_ne_zero hn))⟩
theorem fQ0{α:Type}:∀(n:Nat) (xs:List α) {s:aj}{Q:List α->aj->Prop},xs.length=n->(∀ys d,ys.Perm xs->Q ys {s with drawn:=d})->aE (aF prog w) A (drawOrder n xs) Q E s
 |0,xs,s,Q,hl,h=>by
  have e:xs=[]:=gD.mp hl;subst e;unfold drawOrder;exact ad (h [] s.drawn (dI _))
 |n+1,xs,s,Q,hl,h=>by
  cases xs with
  |nil=>cases hl
  |cons x r =>
   unfold drawOrder;refine aa ?_;have j:(x::r).length≠0:=by simp
   refine eQr j λi hi=>?_;have z:(x::r)[i]?=some (x::r)[i]:=af hi;rw[z];dsimp only;refine aa (fQ0 n ((x::r).eraseIdx i) (s:={s with drawn:=s.drawn.bump .order}) (by rw[iU hi];simp at hl ⊢;omega) λys d q=>?_)
   refine ad (h _ d ?_);refine(q.cons _).trans ?_;exact bZ1 hi
theorem bXh{α:Type}(next:Nat->Nat):∀(fuel k:Nat) (left:List α) (out:Array α),left.length=fuel->(kH next fuel k left out).toList.Perm (out.toList++left)
 |0,k,left,out,hl=>by
  have e:left=[]:=gD.mp hl;subst e;unfold kH;rw[cr]
 |fuel+1,k,left,out,hl=>by
  unfold kH;have hi:next k%left.length<left.length:=Nat.mod_lt _ (by omega)
  rw[af hi];dsimp only;refine(bXh next fuel (k+1) _ _ (by rw[iU hi];omega)).trans ?_
  rw[cC,bd];exact dX _ (bZ1 hi)
theorem bQn{α:Type}(next:Nat->Nat)(xs:Array α):(iI next xs).toList.Perm xs.toList:=by
 have:=bXh next xs.size 0 xs.toList #[] (by simp)
 simpa [iI] using this
def itOb(first:ae)(i:Nat)(p:Addr)(n ep:Nat):Obj:={cls:=.type "set_iterator",dict:=none,data:=.fields #[first,.int i 0,.ref p,.int n 0,.int ep 0],slots:=#[]}
theorem stopT{I:Addr}{Q:Option ae->aj->Prop}{s:aj}(hh:A.in1.handled=none)(h:∀h',(∀b o,s.heap.get? b=some o->h'.get? b=some o)->Q none {s with heap:=h'}) :
  aE (aF prog w) A.in1 (newExc (.type "StopIteration") []>>=λe=>(raiseNew e:Sem Fin)) (λfin s'=>∃r,fin=.done (.ret r)/\aE (aF prog w) A (pure (some r)) Q E s') (λe s'=>aE (aF prog w) A (do if <- isInstance e (.type "StopIteration") then pure none else throw e) Q E s') s:=by
 refine aa ?_;simp only[newExc,newTuple];refine aa (bA ?_ (by size_fits))
 refine aa (m:=iR _ _) (jd (a:=ce) (by first|rfl|(simp only[iR];rfl)) ?_)
 refine bA ?_ (by size_fits)
 simp only[raiseNew];refine aa (wpAny_handled ?_);rw[hh];refine aa (ad (wpAny_throw ?_));refine aa (hZ (T:="StopIteration") (b:=true) ⟨_,ar _ rfl,rfl⟩ isSubtype_stop ?_);exact ad (h _ λb o e=>ag _ (ag _ e))
theorem aJ1{I p:Addr}{es:Array (Int×ae)}{ep:Nat}{t:a8}{first:ae}{i:Nat}{Q:Option ae->aj->Prop}(hp:s.heap.get? p=some (setOb es ep t))(hf:t.fits es.size=true)(hI:s.heap.get? I=some (itOb first i p es.size ep))
  (h:aE (aF prog w) A.in1 (if let .int slot _:=first then do
    match <- setNext p slot.toNat (i:Int).toNat (ep:Int).toNat with
    |some (x,next)=>do
     ip (.ref I) 0 (fI next)
     ip (.ref I) 1 (fI ((i:Int)+1))
     ret x
    |none=>do ip (.ref I) 2 .none;raiseNew (<- newExc (.type "StopIteration") [])
   else do
    let some places <- jF first|fz "internal:set_iterator"
    match places[(i:Int).toNat]? with
    |some (.int place _)=>do
     let x <- setNextDrawn p place.toNat (ep:Int).toNat
     ip (.ref I) 1 (fI ((i:Int)+1))
     ret x
    |some _=>fz "internal:set_iterator"
    |none=>do ip (.ref I) 0 (fI 0);ip (.ref I) 2 .none;raiseNew (<- newExc (.type "StopIteration") []))
   (λfin s'=>∃r,fin=.done (.ret r)/\aE (aF prog w) A (pure (some r)) Q E s') (λe s'=>aE (aF prog w) A (do if <- isInstance e (.type "StopIteration") then pure none else throw e) Q E s') s) :
  aE (aF prog w) A (eV (.ref I)) Q E s:=by
 have j:s.TypeIs (.ref I) "set_iterator":=⟨_,hI,rfl⟩;unfold eV;refine aa (ii (cL (name:=bo "__next__") j slot_setit_next
  (b6 slot_setit_next j aJi ?_ (bQ4 _))))
 unfold cv.«set_iterator.__next__» slotArgs;simp only[jH,gn,aV,↓reduceIte,bind_assoc,cu,bne_self_eq_false];refine aa (ad ?_)
 try dsimp only
 refine aa (gS hI rfl ?_);dsimp only;refine aa (wpAny_setEntries_of hp rfl hf ?_);rw[if_neg (by simp)]
 exact h
structure Gives(prog:au)(w:aN)(A:bj)(I:Addr)(fp:List Addr)(vals:List ae)(St:Nat->bu->Prop):Prop where
 mem:I∈fp
 frame:∀i h h',St i h->(∀b∈fp,∀o,h.get? b=some o->h'.get? b=some o)->St i h'
 item:∀(i:Nat) (s:aj) (v:ae) (Q:Option ae->aj->Prop) (E:ae->aj->Prop),vals[i]?=some v->St i s.heap ->
  (∀h',St (i+1) h'->(∀b o,b≠I->s.heap.get? b=some o->h'.get? b=some o)->Q (some v) {s with heap:=h'})->aE (aF prog w) A (eV (.ref I)) Q E s
 done:∀(s:aj) (Q:Option ae->aj->Prop) (E:ae->aj->Prop),St vals.length s.heap ->
  (∀h',(∀b o,b≠I->s.heap.get? b=some o->h'.get? b=some o)->Q none {s with heap:=h'})->aE (aF prog w) A (eV (.ref I)) Q E s
theorem cQi{p:Addr}{es:Array (Int×ae)}{ep i:Nat}{t:a8}{Q:Option (ae×Nat)->aj->Prop}(hp:s.heap.get? p=some (setOb es ep t))(hf:t.fits es.size=true)(hw:w.params.followText "set-order"=true)
  (h:Q (((iI (w.params.setOrder p ep) es)[i]?).map λe=>(e.2,0)) s):aE (aF prog w) A (setNext p (0:Int).toNat (i:Int).toNat (ep:Int).toNat) Q E s:=by
 unfold setNext;refine aa (dM hp rfl hf ?_);dsimp only;unfold jX;refine aa (aa (dl (ad ?_)));have j:(aF prog w).w.params.followText "set-order"=true:=hw;rw[j,if_pos rfl,if_neg (by simp)]
 unfold setWalk;refine aa (aa (dM hp rfl hf ?_));dsimp only;unfold jX;refine aa (aa (dl (ad ?_)));rw[j,if_pos rfl];refine aa (dl ?_);refine ad (ad ?_);rw[b5];exact h
theorem fQ1{p I T:Addr}{es:Array (Int×ae)}{ep:Nat}{t:a8}{vals:List ae}{places:Array ae}(hh:A.in1.handled=none)(hTI:T≠I)(hpI:p≠I)(hl:places.size=vals.length)
  (hpl:∀(j:Nat) (pl:ae),places[j]?=some pl->∃q:Nat,pl=iH (q:Int) 0/\∃e,es[q]?=some e/\vals[j]?=some e.2) :
  Gives prog w A I [I,p,T] vals (λi h=>h.get? p=some (setOb es ep t)/\t.fits es.size=true/\h.get? I=some (itOb (.ref T) i p es.size ep)/\∃o c,h.get? T=some o/\o.data=.seq places c) where
 mem:=by simp
 frame:=λi h h' st k=>by
  obtain⟨h1,h2,z,o,c,D,B⟩:=st;exact⟨k p (by simp) _ h1,h2,k I (by simp) _ z,o,c,k T (by simp) _ D,B⟩
 item:=λi s v Q E U st J=>by
  obtain⟨h1,h2,z,o,c,D,B⟩:=st;refine aJ1 h1 h2 z ?_;dsimp only;refine aa (dJ D B ?_);dsimp only;have hi:i<places.size:=by rw[hl];exact(aB.mp U).1
  obtain⟨q,e1,e,e2,Y⟩:=hpl i places[i] (by simp[hi])
  have O:places[(i:Int).toNat]?=some (iH (q:Int) 0):=by rw[b5,<- e1];simp[hi]
  rw[O];dsimp only;have ev:e.2=v:=by rw[U] at Y;exact(aO Y).symm
  refine aa ?_;unfold setNextDrawn;refine aa (dM h1 rfl h2 ?_);dsimp only;rw[if_neg (by simp),b5,e2]
  dsimp only;refine ad ?_;refine aa (bW z (by show 1<5;decide) λh' g1 g2=>?_)
  rw[ev];refine ad ⟨v,rfl,ad (J h' ⟨?_,h2,?_,o,c,?_,B⟩ λb o' G e=>(g2.2 b G).trans e)⟩
  ·exact(g2.2 p hpI).trans h1
  ·exact g1
  ·exact(g2.2 T hTI).trans D
 done:=λs Q E st J=>by
  obtain⟨h1,h2,z,o,c,D,B⟩:=st;refine aJ1 h1 h2 z ?_;dsimp only;refine aa (dJ D B ?_);dsimp only;have O:places[(vals.length:Int).toNat]?=none:=by rw[b5,<- hl];simp
  rw[O];dsimp only;refine aa (bW z (by show 0<5;decide) λh' g1 g2=>?_)
  refine aa (bW g1 (by show 2<5;decide) λZ g3 g4=>?_)
  exact stopT (I:=I) hh λL k=>J L λb o' G e=>k b o' ((g4.2 b G).trans ((g2.2 b G).trans e))
theorem fQ2{p I:Addr}{es:Array (Int×ae)}{ep:Nat}{t:a8}{vals:List ae}(hh:A.in1.handled=none)(hpI:p≠I)(hw:w.params.followText "set-order"=true)(hv:vals=(iI (w.params.setOrder p ep) es).toList.map (·.2)) :
  Gives prog w A I [I,p] vals (λi h=>h.get? p=some (setOb es ep t)/\t.fits es.size=true/\h.get? I=some (itOb (.int 0 0) i p es.size ep)) where
 mem:=by simp
 frame:=λi h h' st k=>by
  obtain⟨h1,h2,j⟩:=st;exact⟨k p (by simp) _ h1,h2,k I (by simp) _ j⟩
 item:=λi s v Q E hv' st G=>by
  obtain⟨h1,h2,j⟩:=st;refine aJ1 h1 h2 j ?_;dsimp only;refine aa (cQi h1 h2 hw ?_);have L:((iI (w.params.setOrder p ep) es)[i]?).map (λe=>(e.2,0))=some (v,0):=by
   rw[hv,aL,aW] at hv';cases q:(iI (w.params.setOrder p ep) es)[i]? with
   |none=>rw[q] at hv';cases hv'
   |some e=>rw[q] at hv';cases hv';rfl
  rw[L];dsimp only;refine aa (bW j (by show 0<5;decide) λh' g1 g2=>?_)
  refine aa (bW g1 (by show 1<5;decide) λz g3 D=>?_)
  refine ad ⟨v,rfl,ad (G z ⟨?_,h2,g3⟩ λb o' B e=>(D.2 b B).trans ((g2.2 b B).trans e))⟩;exact(D.2 p hpI).trans ((g2.2 p hpI).trans h1)
 done:=λs Q E st G=>by
  obtain⟨h1,h2,j⟩:=st;refine aJ1 h1 h2 j ?_;dsimp only;refine aa (cQi h1 h2 hw ?_);have L:(iI (w.params.setOrder p ep) es)[vals.length]?=none:=by
   rw[hv];simp
  rw[L];dsimp only[Option.map];refine aa (bW j (by show 2<5;decide) λz g3 D=>?_)
  exact stopT (I:=I) hh λJ k=>G J λb o' B e=>k b o' ((D.2 b B).trans e)
end
end ST
set_option maxHeartbeats 4000000
namespace ST
open PySem PySem.SetTable PySem.Spec PyProof.Rows
section
variable{prog:au}{w:aN}{A:bj}{E:ae->aj->Prop}{s:aj}
theorem bXi{p:Addr}{es:Array (Int×ae)}{ep i sl:Nat}{t:a8}{Q:Option (ae×Nat)->aj->Prop}(hp:s.heap.get? p=some (setOb es ep t))(hf:t.fits es.size=true)(hw:w.params.followText "set-order"=false)(hled:t.led=true)(h1:es.size<=1)
  (h:Q (match es[below t.place sl]?,t.place[below t.place sl]? with|some (_,x),some j=>some (x,j+1)|_,_=>none) s):aE (aF prog w) A (setNext p (sl:Int).toNat (i:Int).toNat (ep:Int).toNat) Q E s:=by
 unfold setNext;refine aa (dM hp rfl hf ?_);dsimp only;unfold jX;refine aa (aa (dl (ad ?_)));have q:(aF prog w).w.params.followText "set-order"=false:=hw;rw[q,if_neg bz];refine iy (λB=>?_) (λ_=>?_)
 ·have z:(!t.plain&&decide (es.size>1))=true:=B;simp only[aY,decide_eq_true_eq] at z;lia
 ·refine aa ?_;show aE _ _ (if (!t.led && !es.isEmpty)=true then fz "set:maker-not-led" else pure ()) _ _ _
  rw[hled,if_neg (by simp)]
  refine ad ?_;refine ad ?_;rw[b5];exact h
theorem bXj(j sl:Nat):below #[j] sl=if j<sl then 1 else 0:=by
 unfold below;simp only[aq,dW];unfold below.go;simp only[Nat.lt_irrefl,if_true,Nat.zero_lt_one]
 split
 ·rename_i h;have h':j<sl:=by simpa using h
  rw[if_pos h'];rfl
 ·rename_i h;have h':¬ j<sl:=by simpa using h
  rw[if_neg h'];rfl
theorem cQj{es:Array (Int×ae)}{t:a8}(hf:t.fits es.size=true):t.place.size=es.size:=by
 unfold kA at hf;simp only[aY,beq_iff_eq] at hf;exact hf.1
theorem fQ3{p I:Addr}{es:Array (Int×ae)}{ep:Nat}{t:a8}{vals:List ae}(hh:A.in1.handled=none)(hpI:p≠I)(hw:w.params.followText "set-order"=false)(hled:t.led=true)(h1s:es.size<=1)(hv:vals=es.toList.map (·.2)) :
  Gives prog w A I [I,p] vals (λi h=>h.get? p=some (setOb es ep t)/\t.fits es.size=true/\∃sl:Nat,h.get? I=some (itOb (.int sl 0) i p es.size ep)/\(i=0->sl=0)/\(i=1->∀j,t.place=#[j]->sl=j+1)) where
 mem:=by simp
 frame:=λi h h' st k=>by
  obtain⟨h1,h2,sl,B,O⟩:=st;exact⟨k p (by simp) _ h1,h2,sl,k I (by simp) _ B,O⟩
 item:=λi s v Q E q st hQ=>by
  obtain⟨h1,h2,sl,B,O,h5⟩:=st;refine aJ1 h1 h2 B ?_;dsimp only;refine aa (bXi h1 h2 hw hled h1s ?_);have hi:i<es.size:=by
   have:=(aB.mp q).1
   rw[hv] at this;simpa using this
  have i0:i=0:=by lia
  subst i0;have Y:=O rfl;subst Y;have Z:=cQj h2;obtain⟨j,J⟩:∃j,t.place=#[j]:=by
   have:t.place.size=1:=by lia
   exact⟨t.place[0],Array.ext (by simp[this]) λk hk1 hk2=>by
    have:k=0:=by lia
    subst this;simp⟩
  rw[J,bXj,if_neg (Nat.not_lt_zero _)];have ee:es[0]?=some es[0]:=by simp[hi]
  have e0:es[0].2=v:=by
   rw[hv,aL,aW,ee] at q;exact aO q
  have e1:es[0]?=some (es[0].1,v):=by rw[ee,<- e0]
  have e2:(#[j]:Array Nat)[0]?=some j:=rfl;rw[e1,e2];dsimp only;refine aa (bW B (by show 0<5;decide) λh' g1 g2=>?_)
  refine aa (bW g1 (by show 1<5;decide) λD g3 U=>?_)
  refine ad ⟨v,rfl,ad (hQ D ⟨?_,h2,j+1,g3,(λz=>nomatch z),λ_ j' G=>?_⟩ λb o' L e=>(U.2 b L).trans ((g2.2 b L).trans e))⟩
  ·exact(U.2 p hpI).trans ((g2.2 p hpI).trans h1)
  ·rw[J] at G
   have:=congrArg (λa:Array Nat=>a[0]?) G
   simp at this;rw[this]
 done:=λs Q E st hQ=>by
  obtain⟨h1,h2,sl,B,O,h5⟩:=st;refine aJ1 h1 h2 B ?_;dsimp only;refine aa (bXi h1 h2 hw hled h1s ?_);have hlen:vals.length=es.size:=by rw[hv];simp
  have Z:=cQj h2;have nn:es[below t.place sl]?=none:=by
   by_cases c:es.size=0
   ·simp[c]
   ·have c1:es.size=1:=by lia
    obtain⟨j,J⟩:∃j,t.place=#[j]:=by
     have:t.place.size=1:=by lia
     exact⟨t.place[0],Array.ext (by simp[this]) λk hk1 hk2=>by
      have:k=0:=by lia
      subst this;simp⟩
    have:=h5 (by lia) j J
    rw[J,bXj,if_pos (by lia)]
    simp[c1]
  rw[nn];dsimp only;refine aa (bW B (by show 2<5;decide) λD g3 U=>?_)
  exact stopT (I:=I) hh λh3' k=>hQ h3' λb o' L e=>k b o' ((U.2 b L).trans e)
theorem fXt{p:Addr}{es:Array (Int×ae)}{ep:Nat}{t:a8}{Q:ae->aj->Prop}(hh:A.in1.handled=none)(hp:s.heap.get? p=some (setOb es ep t))(hf:t.fits es.size=true)(hled:t.led=ledOf w)(hpl:t.plain=true->es.size<=1)(hn:es.size<=300)
  (h:∀I fp vals St h' d,vals.Perm (es.toList.map (·.2))->Gives prog w A I fp vals St->St 0 h'->s.heap.objs.size<=I->(∀b∈fp,b=p\/s.heap.objs.size<=b)->(∀b o,s.heap.get? b=some o->h'.get? b=some o)->Q (.ref I) {s with heap:=h',drawn:=d}) :
  aE (aF prog w) A (jo (.ref p)) Q E s:=by
 have hT:s.TypeIs (.ref p) "set":=⟨_,hp,rfl⟩;have Z:p<s.heap.objs.size:=aA hp;refine wpAny_pyIter_slot hT ke (b6 ke hT bQm ?_ (PySem.F.args_set_iter_1 _));unfold cv.«frozenset.__iter__» cv.Frozenset.slot0 slotArgs;simp only[jH,gn,aV,↓reduceIte,bind_assoc,cu,bne_self_eq_false];unfold js cv.Frozenset.sizeOf;refine aa (ad ?_)
 try dsimp only
 refine aa (ad ?_);refine aa (aa (wpAny_setEntries_of hp rfl hf (ad ?_)));unfold setDrawn jX;refine aa (aa (dM hp rfl hf ?_));dsimp only;refine aa (aa (dl (ad ?_)));refine ad ?_;have fin:∀(first:ae) (h1:bu) (d:Drawn) (Q':Fin->aj->Prop),h1.get? p=some (setOb es ep t) ->
   Q' (.done (.ret (.ref h1.objs.size))) {s with heap:=h1.push (itOb first 0 p es.size ep),drawn:=d} ->
   aE (aF prog w) A.in1 (do
    let e <- setEpoch p
    let v <- newFields "set_iterator" [first,fI 0,.ref p,fI es.size,fI e]
    ret v) Q' E {s with heap:=h1,drawn:=d}:=by
  intro first h1 d Q' ho hQ';refine aa (wpAny_setEpoch_of (s:={s with heap:=h1,drawn:=d}) ho rfl hf ?_)
  exact aa (bA (ad hQ'))
 refine iy (λhc=>?_) (λhc=>?_)
 ·refine aa (fQ0 es.size (aI es.size) (by simp) λys d B=>?_)
  have yl:ys.length=es.size:=by have:=B.length_eq;simpa using this
  have yr:∀q∈ys,q<es.size:=λq hq=>ax.mp (B.mem_iff.mp hq);obtain⟨f1,f2⟩:=cQd (l:=ys) (f:=λq=>(es[q]?).map (·.2)) (λq hq=>by have:=yr q hq;simp[this])
  refine aa (bA ?_ (by show(ys.map λ(i:Nat)=>fI i).toArray.size<=sizeLine;rw[aq,ah,yl,bK];lia))
  generalize O:s.heap.push _=h1;have D:h1.objs.size=s.heap.objs.size+1:=by rw[<- O,cV]
  have old:∀b o,s.heap.get? b=some o->h1.get? b=some o:=λb o e=>by rw[<- O];exact ag _ e
  have hTup:h1.get? s.heap.objs.size=some {cls:=.type "tuple",dict:=none,data:=.seq (ys.map λ(i:Nat)=>fI i).toArray}:=by rw[<- O];exact ar _ rfl
  refine fin (.ref s.heap.objs.size) h1 d _ (old p _ hp) ?_;have G:=fQ1 (prog:=prog) (w:=w) (A:=A) (p:=p) (I:=h1.objs.size) (T:=s.heap.objs.size) (es:=es) (ep:=ep) (t:=t) (vals:=ys.filterMap λq=>(es[q]?).map (·.2)) (places:=(ys.map λ(i:Nat)=>fI i).toArray) hh (by rw[D];exact Nat.ne_of_lt (Nat.lt_succ_self _)) (by rw[D];exact Nat.ne_of_lt (Nat.lt_succ_of_lt Z)) (by simp[f1]) (λj pl hj=>by
   have hj':(ys.map λ(i:Nat)=>fI i)[j]?=some pl:=by simpa using hj
   rw[aL] at hj';cases q:ys[j]? with
   |none=>rw[q] at hj';cases hj'
   |some z =>
    rw[q] at hj';have hz:=yr z (am q);refine⟨z,(aO hj').symm,es[z],by simp[hz],?_⟩
    rw[f2 j,q];simp[hz])
  refine⟨_,rfl, "set_iterator",_,⟨_,ar _ rfl,rfl⟩,slot_setit_next.lookup,h _ _ _ _ _ d ?_ G ⟨ag _ (old p _ hp),hf,ar _ rfl,_,_,ag _ hTup,rfl⟩ (by rw[D];exact Nat.le_succ _) (λb hb=>?_) λb o e=>ag _ (old b o e)⟩
  ·refine(B.filterMap _).trans ?_;have e:(aI es.size).filterMap (λq=>(es[q]?).map (·.2))=es.toList.map (·.2):=by
    rw[<- cQf es,List.map_filterMap]
   rw[e]
  ·simp only[aD,eP,or_false] at hb;rcases hb with e|e|e
   ·right;rw[e,D];exact Nat.le_succ _
   ·exact .inl e
   ·right;rw[e];exact Nat.le_refl _
 ·refine aa (ad ?_);refine fin (fI 0) s.heap s.drawn _ hp ?_;have U:p≠s.heap.objs.size:=Nat.ne_of_lt Z;have small:∀b∈[s.heap.objs.size,p],b=p\/s.heap.objs.size<=b:=λb hb=>by
   simp only[aD,eP,or_false] at hb;rcases hb with e|e
   ·right;rw[e];exact Nat.le_refl _
   ·exact .inl e
  by_cases hw:w.params.followText "set-order"=true
  ·have G:=fQ2 (prog:=prog) (w:=w) (A:=A) (p:=p) (I:=s.heap.objs.size) (es:=es) (ep:=ep) (t:=t) hh U hw rfl;exact⟨_,rfl, "set_iterator",_,⟨_,ar _ rfl,rfl⟩,slot_setit_next.lookup,h _ _ _ _ _ s.drawn ((bQn _ _).map _) G ⟨ag _ hp,hf,ar _ rfl⟩ (Nat.le_refl _) small λb o e=>ag _ e⟩
  ·have L:w.params.followText "set-order"=false:=fg.mpr hw;have h1:es.size<=1:=by
    have J:¬ ((!(w.params.followText "set-order")&&(!t.plain&&decide (es.size>1)))=true):=hc;rw[L] at J
    by_cases Y:t.plain=true
    ·exact hpl Y
    ·have:t.plain=false:=fg.mpr Y
     rw[this] at J;simp at J;exact J
   have hl':t.led=true:=by rw[hled];show(!(w.params.followText "set-order"))=true;rw[L];rfl
   have G:=fQ3 (prog:=prog) (w:=w) (A:=A) (p:=p) (I:=s.heap.objs.size) (es:=es) (ep:=ep) (t:=t) hh U L hl' h1 rfl;exact⟨_,rfl, "set_iterator",_,⟨_,ar _ rfl,rfl⟩,slot_setit_next.lookup,h _ _ _ _ _ s.drawn (dI _) G ⟨ag _ hp,hf,0,ar _ rfl,λ_=>rfl,(λz=>nomatch z)⟩ (Nat.le_refl _) small λb o e=>ag _ e⟩
theorem dZg{I S:Addr}{fp:List Addr}{vals:List ae}{St:Nat->bu->Prop}{R:Result->aj->Prop}(G:Gives prog w A.in1 I fp vals St)(hn:vals.length<=300)(hSf:S∉fp)(res:ae) :
  ∀(k i:Nat) (s:aj) (c:Nat),vals.length-i=k->i<=vals.length->St i s.heap->s.heap.get? S=some {cls:=.type "list",dict:=none,data:=.seq (vals.take i).toArray c,slots:=#[]} ->
  (∀h' c',(∀b o,b≠S->b≠I->s.heap.get? b=some o->h'.get? b=some o)->h'.get? S=some {cls:=.type "list",dict:=none,data:=.seq vals.toArray c',slots:=#[]}->R (.ok (.ret res)) {s with heap:=h'}) ->
  fB (aF prog w) A (.builtin "list.extend.loop" ⟨[.ref S,.ref I,res],[]⟩) R s:=by
 have L:S≠I:=λe=>hSf (e▸G.mem);intro k
 induction k with
 |zero =>
  intro i s c hk hi j Y hR;have hin:i=vals.length:=by lia
  subst hin;refine cZ i7 ?_;rw[cD eX _];show aE _ A.in1 (eV (.ref I)>>=_) _ _ s;refine aa (G.done s _ _ j λh' B=>?_);rw[bN (Nat.le_refl _)] at Y;exact ad (hR h' c (λb o _ hb e=>B b o hb e) (B S _ L Y))
 |succ k ih =>
  intro i s c hk hi j Y hR;have z:i<vals.length:=by lia
  have hv:vals[i]?=some vals[i]:=af z;refine cZ i7 ?_;rw[cD eX _];show aE _ A.in1 (eV (.ref I)>>=_) _ _ s;refine aa (G.item i s _ _ _ hv j λh1 Z k1=>?_);have U:=k1 S _ L Y;have szl:=bK;have q:(vals.take i).toArray.size=i:=by rw[aq,aM];lia
  show aE _ A.in1 (updateSeq S (·.push vals[i])>>=_) _ _ _;refine aa ?_;refine fE (s:={s with heap:=h1}) U rfl (ad ⟨eO eX _,?_⟩) (by rw[q];lia) (by show((vals.take i).toArray.push vals[i]).size<=sizeLine+1;rw[dR,q];lia)
  have hS2:=cH (bU (·.push vals[i])) U rfl;have et:(vals.take i).toArray.push vals[i]=(vals.take (i+1)).toArray:=by
   rw[cE,hv];simp
  obtain⟨c1,O⟩:∃c1,(h1.update S (bU (·.push vals[i]))).get? S=some {cls:=.type "list",dict:=none,data:=.seq (vals.take (i+1)).toArray c1,slots:=#[]}:=⟨_,by rw[<- et];exact hS2⟩
  refine ih (i+1) {s with heap:=h1.update S (bU (·.push vals[i]))} c1 (by lia) z (G.frame _ _ _ Z λb hb o e=>(bL _ _ (λh:S=b=>hSf (by rw[h];exact hb))).trans e) O λh' c' a1 a2=>?_
  ·exact hR h' c' (λb o J D e=>a1 b o J D ((bL _ _ (cA J)).trans (k1 b o D e))) a2
theorem collectT{p:Addr}{es:Array (Int×ae)}{ep:Nat}{t:a8}{Q:List ae->aj->Prop}(hh:A.handled=none)(hp:s.heap.get? p=some (setOb es ep t))(hf:t.fits es.size=true)(hled:t.led=ledOf w)(hpl:t.plain=true->es.size<=1)(hn:es.size<=300)
  (h:∀vals h' d,vals.Perm (es.toList.map (·.2))->(∀b o,s.heap.get? b=some o->h'.get? b=some o)->Q vals {s with heap:=h',drawn:=d}):aE (aF prog w) A (collect (.ref p)) Q E s:=by
 have O:p<s.heap.objs.size:=aA hp;have hT:∀s':aj,s'.heap.get? p=some (setOb es ep t)->s'.TypeIs (.ref p) "set":=λs' e=>⟨_,e,rfl⟩;unfold collect;refine aa (wpAny_runValue (cZ PySem.F.entry_proto_collect ?_));rw[cD PySem.F.plain_proto_collect _];show aE _ A.in1 (newList []>>=λl=>again (.builtin "list.__iadd__" ⟨[l,.ref p],[]⟩)) _ _ s;refine aa (bA ?_);refine ad ⟨eO jI _,cZ PySem.F.entry_list_iadd ?_⟩;rw[cD jI _];show aE _ A.in1 (iE (.ref s.heap.objs.size) (.ref p) (.ref s.heap.objs.size)) _ _ _;generalize J:s.heap.push _=h1;have old:∀b o,s.heap.get? b=some o->h1.get? b=some o:=λb o e=>by rw[<- J];exact ag _ e
 have L:h1.objs.size=s.heap.objs.size+1:=by rw[<- J,cV]
 have hS1:h1.get? s.heap.objs.size=some {cls:=.type "list",dict:=none,data:=.seq #[] 0,slots:=#[]}:=by rw[<- J];exact ar _ rfl
 have D:=old p _ hp;unfold iE;refine aa (gJ (hT {s with heap:=h1} D) ?_)
 have e1:jt (.ref s.heap.objs.size) (.ref p)=false:=by simp[jt,Nat.ne_of_gt O]
 rw[if_neg (by rw[e1];decide)]
 refine aa (fXt (s:={s with heap:=h1}) hh D hf hled hpl hn λI fp vals St h2 d B G st2 hI hfp k2=>?_)
 have hvl:vals.length=es.size:=by have:=B.length_eq;simpa using this
 have hI':h1.objs.size<=I:=hI;have hSI:s.heap.objs.size≠I:=by lia
 refine aa (bq (eQq (k2 p _ D) ?_));have U:s.heap.objs.size∉fp:=λz=>by
  have q:=hfp _ z;have q':s.heap.objs.size=p\/h1.objs.size<=s.heap.objs.size:=q;rcases q' with e|e
  ·exact absurd e (Nat.ne_of_gt O)
  ·rw[L] at e;exact absurd e (Nat.not_succ_le_self _)
 refine iy (λ_=>?_) (λhc=>absurd (by decide +kernel) hc)
 refine aa (dG ?_);refine aa ?_;have Z:=k2 _ _ hS1;show aE _ _ (updateSeq s.heap.objs.size (·.push .none)>>=λ_=>updateSeq s.heap.objs.size (·.pop)) _ _ _;refine aa (fE Z rfl ?_);have Y:=cH (bU (·.push ce)) Z rfl;refine fE (hz:=by seq_fits) Y rfl ?_
 have hS4:=cH (bU (·.pop)) Y rfl;refine ad ⟨eO eX _,?_⟩;refine dZg G (by lia) U _ (vals.length-0) 0 _ _ rfl (Nat.zero_le _) (G.frame _ _ _ st2 λb hb o e=>?_) hS4 λh' c' a1 a2=>?_
 ·have j:b≠s.heap.objs.size:=λz=>U (z▸hb);exact(bL _ _ (cA j)).trans ((bL _ _ (cA j)).trans e)
 ·show aE _ A (load s.heap.objs.size>>=_) _ _ _;refine aa (wpAny_load a2 ?_)
  have:=h vals h' d B λb o e=>?_
  ·exact ad this
  ·have j:b≠s.heap.objs.size:=Nat.ne_of_lt (aA e);have hbI:b≠I:=Nat.ne_of_lt (Nat.lt_of_lt_of_le (aA e) (Nat.le_trans (by rw[L];exact Nat.le_succ _) hI'))
   exact a1 b o j hbI ((bL _ _ (cA j)).trans ((bL _ _ (cA j)).trans (k2 b o (old b o e))))
end
end ST
namespace KS
open PySem PySem.W PyProof.Rows
def TS(h:bu)(v:ae)(d:List Str):Prop:=∃b items,v=.ref b/\i8 h b items/\HT.SAre items.toList d
section
variable{prog:au}{w:aN}{A:bj}{E:ae->aj->Prop}{s:aj}
theorem dXs{Q:Bool->aj->Prop}:∀{us vs:List ae}{d e:List Str}(i:Nat) {fin:Bool},HT.SAre us d->HT.SAre vs e->fin=decide (d.length<e.length)->Q (HT.lexS d e) s->KatLex prog w A true fin Q (us.zip vs) i s
 |_,_,_,_,i,fin,.nil,.nil,hf,h=>by subst hf;exact kat_nil h
 |_,_,_,_,i,fin,.nil,.cons _ _,hf,h=>by
  subst hf;rw[jf];rw[HT.lexS_nil_cons] at h;exact kat_nil (by simpa using h)
 |_,_,_,_,i,fin,.cons _ _,.nil,hf,h=>by
  subst hf;rw[iT];rw[HT.lexS_cons_nil] at h;exact kat_nil (by simpa using h)
 |_,_,x::d,y::e,i,fin,.cons ⟨t,B⟩ p,.cons ⟨u,j⟩ q,hf,h=>by
  subst B j;rw[d6];rw[HT.lexS_cons] at h;refine kat_cons (iS x t y u _ _ _ _ ?_);refine kat_go (λz=>kat_yes (dXs (i+1) p q (by subst hf;simp) (by rw[if_pos (by simpa using z)] at h;exact h))) λz=>kat_no ?_
  rw[if_neg (by simpa using z)] at h
  cases i with
  |zero=>exact oneLt_str h
  |succ i =>
   show aE _ _ (oneLt' false _ _) _ _ _;exact kat_one _ _ (ky (show PySem.W.BoolBack Q (.bool (HT.ltS x y)) s from h))
theorem cJ3{x y:ae}{d e:List Str}{Q:Bool->aj->Prop}(hx:TS s.heap x d)(hy:TS s.heap y e)(h:Q (HT.lexS d e) s):aE (aF prog w) A (keyLt' (tuples' true) x y) Q E s:=by
 obtain⟨b,items,rfl,⟨o,D,_,n,hd⟩,p⟩:=hx;obtain⟨L,j,rfl,⟨G,q,_,J,hd2⟩,p2⟩:=hy;refine kat_lt D hd q hd2 (dXs 0 p p2 ?_ h);have B:=p.len;have z:=p2.len;simp only[bn] at B z;rw[B,z]
theorem cZr{x y:ae}{d e:List Str}{Q:Bool->aj->Prop}(hu:A.units<cB)(hx:TS s.heap x d)(hy:TS s.heap y e)(h:Q (HT.lexS d e) s):aE (aF prog w) A (keyLt' general' x y) Q E s:=by
 obtain⟨b,items,rfl,t1,p⟩:=hx;obtain⟨z,j,rfl,q,p2⟩:=hy;show aE _ _ (oneLt' false _ _) _ _ _;exact kat_one _ _ (HT.lt_tupStrs t1 q p p2 hu (show PySem.W.BoolBack Q (.bool (HT.lexS d e)) s from h))
theorem fQ4{x y:ae}{d e:List Str}{Q:Bool->aj->Prop}(hu:A.units<cB)(hx:TS s.heap x d)(hy:TS s.heap y e)(h:Q (HT.lexS d e) s):aE (aF prog w) A (keyLt' oneType' x y) Q E s:=by
 obtain⟨b,items,rfl,t1,p⟩:=hx;obtain⟨Y,j,rfl,O,p2⟩:=hy;rw[keyLt'_oneType,oneLt'_eq];simp only[if_true];obtain⟨⟨cls,dd,data,sl⟩,D,J,n,hd⟩:=id t1;obtain⟨⟨L,G,data2,z⟩,B,q,U,hd2⟩:=id O;simp only at J hd q hd2;subst J hd q hd2;refine aa (wpAny_cRoomFor hu ?_);refine aa (wpAny_callSpecialIfBound?_slot ⟨_,D,rfl⟩ g7 (call_meets g7 ⟨_,D,rfl⟩ jW (jG _ _) (HT.tuple_lt_strs b Y items j n U dd G sl z d e p p2) ⟨D,B,?_⟩));exact dF h
theorem bXk:∀{vs:List ae}{ds:List (List Str)}{Q:List (Option ae)->aj->Prop},bi (TS s.heap) vs ds->(∀fs:List (Option ae),bi (λf d=>match f with|none=>d=[]|some v=>∃x r t,d=x::r/\v=.str x t) fs ds->Q fs s)->aE (aF prog w) A (vs.mapM firstOfTuple') Q E s
 |_,_,_,.nil,h=>by rw[List.mapM_nil];exact ad (h [] .nil)
 |_,_,Q,.cons p q,h=>by
  obtain⟨b,items,rfl,⟨o,j,D,n,hd⟩,sa⟩:=p;rw[List.mapM_cons];refine aa ?_;rw[kas_first_eq];refine aa (Looks.here (show Looks (aF prog w) s.heap (typeOf (.ref b)) o.cls from(Looks.ld j).andThen .now) ?_)
  rw[D,if_neg (by first|decide|simp)]
  refine aa (listItems_at j hd (ad ?_));refine aa (bXk q λfs pf=>ad (h _ (.cons ?_ pf)));obtain⟨items⟩:=items;have sa:HT.SAre items _:=sa;have e:(Array.mk items)[0]?=items[0]?:=by simp
  rw[e];cases sa with
  |nil=>rfl
  |cons z _=>obtain⟨t,B⟩:=z;exact⟨_,_,t,rfl,B⟩
theorem eQs{vs:List ae}{ds:List (List Str)}{Q:fw->aj->Prop}(p:bi (TS s.heap) vs ds)(hne:vs≠[])(h:∀κ,κ=tuples' true\/κ=general'\/κ=oneType'->Q κ s):aE (aF prog w) A (keyKind' vs.toArray) Q E s:=by
 rw[kat_kind_eq,jg,map_eq_pure_bind];refine aa (aa (bXk p λfs pf=>ad ?_))
 by_cases j:(fs.toArray.all λx=>x.isSome)=true
 ·rw[if_pos j];refine aa (dG ?_);rw[oneTypeOnly'_eq];have G:∀v∈(fs.toArray.filterMap id).toList,∃x t,v=.str x t:=λv G=>by
   simp only[Array.toList_filterMap,fA,id] at G;obtain⟨f,hf,rfl⟩:=G
   have:∀{fs:List (Option ae)}{ds:List (List Str)},bi (λf d=>match f with|none=>d=[]|some v=>∃x r t,d=x::r/\v=.str x t) fs ds->some v∈fs->∃x t,v=.str x t:=by
    intro fs ds pf
    induction pf with
    |nil=>intro hm;cases hm
    |cons z _ J =>
     intro hm;rcases aD.mp hm with e|hm
     ·subst e;obtain⟨x,r,t,_,e⟩:=z;exact⟨x,t,e⟩
     ·exact J hm
   exact this pf hf
  have q:(fs.toArray.filterMap id).toList≠[]:=by
   have O:fs.length=vs.length:=by have:=ca p;have:=ca pf;lia
   cases fs with
   |nil=>exact absurd (bZ (by simpa using O.symm)) hne
   |cons f fs =>
    simp only[List.all_toArray,ij,aY] at j;obtain⟨v,rfl⟩:=cj.mp j.1;simp
  generalize (fs.toArray.filterMap id)=gs at G q;obtain⟨gs⟩:=gs;rw[jg,map_eq_pure_bind];refine aa (aa (aa (kas_mapM (r:=dE "str") gs (λv B Z L=>?_) (ad ?_))))
  ·obtain⟨x,t,rfl⟩:=G v B;exact ad L
  ·obtain⟨g,gr,rfl⟩:∃g gr,gs=g::gr:=by
    cases gs with
    |nil=>exact absurd rfl q
    |cons g gr=>exact⟨g,gr,rfl⟩
   have h0:(List.map (λ_=>dE "str") (g::gr)).toArray[0]?=some (dE "str"):=by simp
   have D:((List.map (λ_=>dE "str") (g::gr)).toArray.all λx=>x==dE "str")=true:=by
    simp only[List.all_toArray,jY,b7];intro _ _;simp
   rw[h0];simp only[D,if_true];exact ad (ad (h _ (.inl rfl)))
 ·rw[if_neg j]
  by_cases h1:((fs.toArray[0]?.bind id).isSome)=true
  ·rw[if_pos h1];exact ad (h _ (.inr (.inl rfl)))
  ·rw[if_neg h1,oneTypeOnly'_eq,jg,map_eq_pure_bind];refine aa (aa (aa (kas_mapM (r:=dE "tuple") vs (λv B Z L=>?_) (ad ?_))))
   ·have:∀{vs:List ae}{ds:List (List Str)},bi (TS s.heap) vs ds->v∈vs->∃d,TS s.heap v d:=by
     intro vs ds pp
     induction pp with
     |nil=>intro hm;cases hm
     |cons z _ J =>
      intro hm;rcases aD.mp hm with e|hm
      ·subst e;exact⟨_,z⟩
      ·exact J hm
    obtain⟨d,b,items,rfl,⟨o,U,Y,_⟩,_⟩:=this p B;refine Looks.here (show Looks (aF prog w) s.heap (typeOf (.ref b)) (.type "tuple") from ?_) L
    rw[<- Y];exact(Looks.ld U).andThen .now
   ·generalize (List.map (λ_=>dE "tuple") vs).toArray=ts;cases ts[0]? with
    |none=>exact ad (ad (by first|exact h _ (.inr (.inl rfl))|exact h _ (.inr (.inr rfl))))
    |some t =>
     by_cases h2:(ts.all (· ==t))=true
     ·simp only[h2,if_true];exact ad (ad (h _ (.inr (.inr rfl))))
     ·simp only[h2,if_false];exact ad (ad (h _ (.inr (.inl rfl))))
end
end KS
namespace SF
open PySem PyProof.Rows
abbrev SM:=StateT cW Sem
def gal:Bool->aP->Array aP->Nat->Nat->Nat->SM (Option Nat):=sortPriv% PySem.Builtin.gallop
def mLo:Array aP->Array aP->SM (Array aP):=sortPriv% PySem.Builtin.mergeLo
def mHi:Array aP->Array aP->SM (Array aP):=sortPriv% PySem.Builtin.mergeHi
abbrev setG(st:cW)(g:Nat):cW:=iV (kindOf st) (aT st) (bX st) g (fS st)
def bey(lf:Bool)(key:aP)(arr:Array aP)(b0 i:Nat):SM (Option Bool):=do
 let x <- eU arr (b0+i)
 if lf then lt' x key else return (<- lt' key x).map (!·)
theorem fQ5(lf:Bool)(key:aP)(arr:Array aP)(b0 n at0:Nat):gal lf key arr b0 n at0=(do
 let mut lastofs:=0
 let mut ofs:=1
 let mut lo:=0
 let mut hi:=0
 let some rt <- bey lf key arr b0 at0|return none
 if rt then
  let mx:=n-at0
  for _ in [0:n] do
   if ofs>=mx then break
   let some m1 <- bey lf key arr b0 (at0+ofs)|return none
   if !m1 then break
   lastofs:=ofs
   ofs:=2*ofs+1
  lo:=at0+lastofs+1
  hi:=at0+min ofs mx
 else
  let mx:=at0+1
  for _ in [0:n] do
   if ofs>=mx then break
   let some f1 <- bey lf key arr b0 (at0-ofs)|return none
   if f1 then break
   lastofs:=ofs
   ofs:=2*ofs+1
  lo:=at0+1-min ofs mx
  hi:=at0-lastofs
 for _ in [0:n] do
  if lo>=hi then break
  let m:=lo+(hi-lo)/2
  let some m2 <- bey lf key arr b0 m|return none
  if m2 then lo:=m+1 else hi:=m
 return some hi):=rfl
theorem fQ6(a b:Array aP):mLo a b=(do
 rule "list.sort.merge-lo"
 let total:=a.size+b.size
 let fin (o:Array aP) (ia ib:Nat):=o++a.extract ia a.size++b.extract ib b.size
 let lst (o:Array aP) (ia ib:Nat):=o++b.extract ib b.size++a.extract ia a.size
 let mut out:Array aP:=#[<- eU b 0]
 let mut ia:=0
 let mut ib:=1
 if ib==b.size then return fin out ia ib
 if ia+1==a.size then return lst out ia ib
 let mut minGallop:=gallopOf (<- get)
 for _ in [0:total] do
  let mut acount:=0
  let mut bcount:=0
  for _ in [0:total] do
   let some bw <- lt' (<- eU b ib) (<- eU a ia)|return fin out ia ib
   if bw then
    out:=out.push (<- eU b ib)
    ib:=ib+1
    bcount:=bcount+1
    acount:=0
    if ib==b.size then return fin out ia ib
    if bcount>=minGallop then break
   else
    out:=out.push (<- eU a ia)
    ia:=ia+1
    acount:=acount+1
    bcount:=0
    if ia+1==a.size then return lst out ia ib
    if acount>=minGallop then break
  rule "list.sort.gallop"
  minGallop:=minGallop+1
  for _ in [0:total] do
   if minGallop>1 then minGallop:=minGallop-1
   modify (λs=>setG s minGallop)
   let some k <- gal false (<- eU b ib) a ia (a.size-ia) 0|return fin out ia ib
   acount:=k
   if k>0 then
    out:=out++a.extract ia (ia+k)
    ia:=ia+k
    if ia+1==a.size then return lst out ia ib
    if ia==a.size then return fin out ia ib
   out:=out.push (<- eU b ib)
   ib:=ib+1
   if ib==b.size then return fin out ia ib
   let some k <- gal true (<- eU a ia) b ib (b.size-ib) 0|return fin out ia ib
   bcount:=k
   if k>0 then
    out:=out++b.extract ib (ib+k)
    ib:=ib+k
    if ib==b.size then return fin out ia ib
   out:=out.push (<- eU a ia)
   ia:=ia+1
   if ia+1==a.size then return lst out ia ib
   if acount<7&&bcount<7 then break
  minGallop:=minGallop+1
  modify (λs=>setG s minGallop)
 fz "internal:list.sort.merge-bound"):=rfl
structure Orc(prog:au)(w:aN)(A:bj)(s:aj)(κ:fw)(P:aP->Prop)(lt:aP->aP->Bool):Prop where
 ask:∀x y (Q:Bool->aj->Prop),P x->P y->Q (lt x y) s->aE (aF prog w) A (keyLt' κ x.1 y.1) Q (λ_ _=>False) s
 as:∀x y,P x->P y->lt x y=true->lt y x=false
 tr:∀x y z,P x->P y->P z->lt y x=false->lt z y=false->lt z x=false
section
variable{prog:au}{w:aN}{A:bj}{E:ae->aj->Prop}{s:aj}{κ:fw}{P:aP->Prop}{lt:aP->aP->Bool}
theorem cJ4(o:Orc prog w A s κ P lt){st:cW}{x y:aP}{Q:Option Bool->cW->Prop}(hk:kindOf st=κ)(hx:P x)(hy:P y)(h:Q (some (lt x y)) st):wpS (aF prog w) A E s (lt' x y) Q st:=by
 rw[lt'_eq];refine az (iF ?_);rw[hk];refine az (iW (ii (eB (o.ask x y (λb s'=>s'=s/\b=lt x y) hx hy ⟨rfl,rfl⟩) (λb s' j=>?_) λ_ _ q=>q.elim)));obtain⟨rfl,rfl⟩:=j;exact⟨rfl,aG h⟩
theorem aZe{st:cW}{arr:Array aP}{i:Nat}{x:aP}{Q:aP->cW->Prop}(hx:arr[i]?=some x)(h:Q x st):wpS (aF prog w) A E s (eU arr i) Q st:=by
 rw[elem'_eq,hx];exact aG h
def bv(lt:aP->aP->Bool)(lf:Bool)(key x:aP):Bool:=if lf then lt x key else !lt key x
theorem bXl(o:Orc prog w A s κ P lt){st:cW}{lf:Bool}{key x:aP}{arr:Array aP}{b0 i:Nat}{Q:Option Bool->cW->Prop}(hk:kindOf st=κ)(hkey:P key)(hx:arr[b0+i]?=some x)(px:P x)(h:Q (some (bv lt lf key x)) st):wpS (aF prog w) A E s (bey lf key arr b0 i) Q st:=by
 unfold bey;refine az (aZe hx ?_);cases lf with
 |true=>exact cJ4 o hk px hkey h
 |false=>exact az (cJ4 o hk hkey px (aG h))
theorem dXt{st:cW}{b:Nat->Bool}{n lo hi:Nat}{body:Nat->Option (Option Nat)×Nat×Nat->SM (ForInStep (Option (Option Nat)×Nat×Nat))}{Q:Option (Option Nat)×Nat×Nat->cW->Prop}
  (hb:∀x lo hi (Q':ForInStep (Option (Option Nat)×Nat×Nat)->cW->Prop),hi<=n->(hi<=lo->Q' (.done (none,lo,hi)) st)->(lo<hi->b (lo+(hi-lo)/2)=true->Q' (.yield (none,lo+(hi-lo)/2+1,hi)) st)->(lo<hi->b (lo+(hi-lo)/2)=false->Q' (.yield (none,lo,lo+(hi-lo)/2)) st)->wpS (aF prog w) A E s (body x (none,lo,hi)) Q' st)
  (mono:∀i j,i<=j->j<n->b j=true->b i=true) (h1:lo<=hi) (h2:hi<=n) (h3:∀i,i<lo->b i=true) (h4:∀i,hi<=i->i<n->b i=false)
  (h:∀k,k<=n->(∀i,i<k->b i=true)->(∀i,k<=i->i<n->b i=false)->Q (none,k,k) st):wpS (aF prog w) A E s (forIn [0:n] ((none,lo,hi):Option (Option Nat)×Nat×Nat) body) Q st:=by
 refine dw (b9 (I:=λx c q=>q=st/\∃ lo hi,c=(none,lo,hi)/\lo<=hi/\hi<=n/\hi + x<=lo + n/\(∀ i,i < lo->b i=true)/\∀ i,hi<=i->i < n->b i=false)
  (Q:=λc q=>q=st/\∃lo hi,c=(none,lo,hi)/\hi<=lo/\lo<=hi/\hi<=n/\(∀i,i<lo->b i=true)/\∀i,hi<=i->i<n->b i=false) ?_ ?_ ⟨rfl,lo,hi,rfl,h1,h2,by omega,h3,h4⟩) ?_
 ·rintro x c q _ L ⟨rfl,lo,hi,rfl,a1,a2,J,B,z⟩;refine hb x lo hi _ a2 (λD=>⟨rfl,lo,hi,rfl,D,a1,a2,B,z⟩) (λD e=>⟨rfl,_,_,rfl,by omega,a2,by omega,λi G=>mono i _ (by omega) (by omega) e,z⟩) λD e=>⟨rfl,_,_,rfl,by omega,by omega,by omega,B,λi h1 h2=>?_⟩
  cases e2:b i with
  |false=>rfl
  |true=>rw[mono _ i h1 h2 e2] at e;cases e
 ·rintro c q ⟨rfl,lo,hi,rfl,a1,a2,J,B,z⟩;exact⟨rfl,lo,hi,rfl,by omega,a1,a2,B,z⟩
 ·rintro c q ⟨rfl,lo,hi,rfl,a0,a1,a2,B,z⟩
  have:lo=hi:=by omega
  subst this;exact h lo a2 B z
theorem bZ2(o:Orc prog w A s κ P lt){st:cW}{lf:Bool}{key:aP}{arr:Array aP}{b0 n at0:Nat}{f:Nat->aP}{Q:Option Nat->cW->Prop}(hk:kindOf st=κ)(hkey:P key)
  (hf:∀i,i<n->arr[b0+i]?=some (f i)/\P (f i)) (mono:∀i j,i<=j->j<n->bv lt lf key (f j)=true->bv lt lf key (f i)=true) (h0:at0<n)
  (h:∀k,k<=n->(∀i,i<k->bv lt lf key (f i)=true)->(∀i,k<=i->i<n->bv lt lf key (f i)=false)->Q (some k) st):wpS (aF prog w) A E s (gal lf key arr b0 n at0) Q st:=by
 rw[fQ5];dsimp only;have up:∀i j,i<=j->j<n->bv lt lf key (f i)=false->bv lt lf key (f j)=false:=λi j h1 h2 h3=>by
  cases e:bv lt lf key (f j) with
  |false=>rfl
  |true=>rw[mono i j h1 h2 e] at h3;cases h3
 refine az (bXl o hk hkey (hf at0 h0).1 (hf at0 h0).2 ?_);dsimp only;cases e0:bv lt lf key (f at0) with
 |true =>
  rw[if_pos rfl];refine az (dw (b9 (I:=λx c B=>B=st/\∃ l q,c=(none,l,q)/\l < q/\x + 1<=q/\at0 + l < n/\bv lt lf key (f (at0 + l))=true)
   (Q:=λc B=>B=st/\∃l q,c=(none,l,q)/\l<q/\at0+l<n/\bv lt lf key (f (at0+l))=true/\(n-at0<=q\/(at0+q<n/\bv lt lf key (f (at0+q))=false))) ?_ ?_ ⟨rfl,0,1,rfl,by decide,by decide,h0,e0⟩) ?_)
  ·rintro x c B _ hx ⟨rfl,l,q,rfl,a1,a2,J,G⟩;dsimp only
   by_cases D:q>=n-at0
   ·rw[if_pos D];exact aG ⟨rfl,l,q,rfl,a1,J,G,.inl D⟩
   ·rw[if_neg D];have hm:at0+q<n:=by omega
    refine az (bXl o hk hkey (hf _ hm).1 (hf _ hm).2 ?_);dsimp only;cases e:bv lt lf key (f (at0+q)) with
    |true=>rw[if_neg (by simp)];exact aG ⟨rfl,q,_,rfl,by omega,by omega,hm,e⟩
    |false=>rw[if_pos (by rfl)];exact aG ⟨rfl,l,q,rfl,a1,J,G,.inr ⟨hm,e⟩⟩
  ·rintro c B ⟨rfl,l,q,rfl,a1,a2,J,G⟩;exact⟨rfl,l,q,rfl,a1,J,G,.inl (by omega)⟩
  ·rintro c B ⟨rfl,l,q,rfl,a1,J,G,a5⟩;have H4:∀i,at0+min q (n-at0)<=i->i<n->bv lt lf key (f i)=false:=λi h1 h2=>by
    rcases a5 with z|⟨z1,L⟩
    ·omega
    ·exact up (at0+q) i (by omega) h2 L
   refine az (dXt (b:=λi=>bv lt lf key (f i)) (n:=n) (lo:=at0+l+1) (hi:=at0+min q (n-at0)) (λx lo hi Q' hn Y U O=>?_) mono (by omega) (by omega) (λi hi=>mono i (at0+l) (by omega) J G) H4 λk k1 k2 Z=>aG (h k k1 k2 Z))
   dsimp only
   by_cases D:lo>=hi
   ·rw[if_pos D];exact aG (Y D)
   ·rw[if_neg D];have hm:lo+(hi-lo)/2<n:=by omega
    refine az (bXl o hk hkey (hf _ hm).1 (hf _ hm).2 ?_);dsimp only;cases e:bv lt lf key (f (lo+(hi-lo)/2)) with
    |true=>rw[if_pos rfl];exact aG (U (by omega) e)
    |false=>rw[if_neg (by simp)];exact aG (O (by omega) e)
 |false =>
  rw[if_neg (by simp)]
  refine az (dw (b9 (I:=λx c B=>B=st/\∃ l q,c=(none,l,q)/\l < q/\x + 1<=q/\l<=at0/\bv lt lf key (f (at0 - l))=false)
   (Q:=λc B=>B=st/\∃l q,c=(none,l,q)/\l<q/\l<=at0/\bv lt lf key (f (at0-l))=false/\(at0+1<=q\/(q<=at0/\bv lt lf key (f (at0-q))=true))) ?_ ?_ ⟨rfl,0,1,rfl,by decide,by decide,Nat.zero_le _,e0⟩) ?_)
  ·rintro x c B _ hx ⟨rfl,l,q,rfl,a1,a2,J,G⟩;dsimp only
   by_cases D:q>=at0+1
   ·rw[if_pos D];exact aG ⟨rfl,l,q,rfl,a1,J,G,.inl D⟩
   ·rw[if_neg D];have hm:at0-q<n:=by omega
    refine az (bXl o hk hkey (hf _ hm).1 (hf _ hm).2 ?_);dsimp only;cases e:bv lt lf key (f (at0-q)) with
    |true=>rw[if_pos rfl];exact aG ⟨rfl,l,q,rfl,a1,J,G,.inr ⟨by omega,e⟩⟩
    |false=>rw[if_neg (by simp)];exact aG ⟨rfl,q,_,rfl,by omega,by omega,by omega,e⟩
  ·rintro c B ⟨rfl,l,q,rfl,a1,a2,J,G⟩;exact⟨rfl,l,q,rfl,a1,J,G,.inl (by omega)⟩
  ·rintro c B ⟨rfl,l,q,rfl,a1,J,G,a5⟩;have H3:∀i,i<at0+1-min q (at0+1)->bv lt lf key (f i)=true:=λi hi=>by
    rcases a5 with z|⟨z1,L⟩
    ·omega
    ·exact mono i (at0-q) (by omega) (by omega) L
   refine az (dXt (b:=λi=>bv lt lf key (f i)) (n:=n) (lo:=at0+1-min q (at0+1)) (hi:=at0-l) (λx lo hi Q' hn Y U O=>?_) mono (by omega) (by omega) H3 (λi h1 h2=>up (at0-l) i h1 h2 G) λk k1 k2 Z=>aG (h k k1 k2 Z))
   dsimp only
   by_cases D:lo>=hi
   ·rw[if_pos D];exact aG (Y D)
   ·rw[if_neg D];have hm:lo+(hi-lo)/2<n:=by omega
    refine az (bXl o hk hkey (hf _ hm).1 (hf _ hm).2 ?_);dsimp only;cases e:bv lt lf key (f (lo+(hi-lo)/2)) with
    |true=>rw[if_pos rfl];exact aG (U (by omega) e)
    |false=>rw[if_neg (by simp)];exact aG (O (by omega) e)
end
def Sd{α:Type}(lt:α->α->Bool)(l:List α):Prop:=l.Pairwise λx y=>lt y x=false
structure Iv{α:Type}(lt:α->α->Bool)(T out rest:List α):Prop where
 perm:(out++rest).Perm T
 sd:Sd lt out
 lo:∀x∈out,∀y∈rest,lt y x=false
section
variable{α:Type}{lt:α->α->Bool}{T out rest:List α}
theorem Iv.step(h:Iv lt T out rest){xs rest':List α}(hp:rest.Perm (xs++rest'))(hs:Sd lt xs)(hl:∀x∈xs,∀y∈rest',lt y x=false):Iv lt T (out++xs) rest':=by
 refine⟨?_,bG.mpr ⟨h.sd,hs,λx q y j=>h.lo x q y (hp.mem_iff.mpr (be _ j))⟩,λx q y j=>?_⟩
 ·rw[bd];exact(dX out hp.symm).trans h.perm
 ·rcases aS.mp q with z|z
  ·exact h.lo x z y (hp.mem_iff.mpr (a7 _ j))
  ·exact hl x z y j
theorem Iv.done(h:Iv lt T out rest)(hs:Sd lt rest):Sd lt (out++rest)/\(out++rest).Perm T:=⟨bG.mpr ⟨h.sd,hs,h.lo⟩,h.perm⟩
theorem Iv.perm'(h:Iv lt T out rest){rest':List α}(hp:rest.Perm rest'):Iv lt T out rest':=⟨(dX out hp.symm).trans h.perm,h.sd,λx q y j=>h.lo x q y (hp.mem_iff.mpr j)⟩
theorem Iv.size(h:Iv lt T out rest):out.length+rest.length=T.length:=by rw[<- ap];exact h.perm.length_eq
theorem bJh{l:List α}{i:Nat}{x:α}(h:l[i]?=some x):l.drop i=x::l.drop (i+1):=by
 have hi:=(aB.mp h).1;rw[cQ hi]
 congr 1
 exact(aB.mp h).2
theorem Sd.drop{l:List α}(h:Sd lt l)(i:Nat):Sd lt (l.drop i):=h.sublist (List.drop_sublist _ _)
theorem Sd.at{l:List α}(h:Sd lt l){i j:Nat}{x y:α}(hij:i<j)(hx:l[i]?=some x)(hy:l[j]?=some y):lt y x=false:=by
 obtain⟨h1,z⟩:=aB.mp hx;obtain⟨h2,q⟩:=aB.mp hy
 have:=bO.mp h i j h1 h2 hij
 rw[z,q] at this;exact this
theorem aQm{l:List α}{i:Nat}{y:α}(h:y∈l.drop i):∃j,i<=j/\l[j]?=some y:=by
 obtain⟨k,q,e⟩:=bh h;rw[gQ] at e;rw[bm] at q;exact⟨i+k,by omega,by rw[af (by omega),e]⟩
end
section
variable{prog:au}{w:aN}{A:bj}{s:aj}{κ:fw}{P:aP->Prop}{lt:aP->aP->Bool}{T out la lb:List aP}{ia ib:Nat}{x y:aP}
theorem bXm(o:Orc prog w A s κ P lt){l:List aP}(hP:∀z∈l,P z)(hs:Sd lt l){i:Nat}{z:aP}(hz:P z){y:aP}(hy:l[i]?=some y)(h:lt y z=false):∀u∈l.drop i,lt u z=false:=λu B=>by
 obtain⟨j,D,e⟩:=aQm B;rcases Nat.eq_or_lt_of_le D with rfl|q
 ·rw[hy] at e;cases e;exact h
 ·exact o.tr z y u hz (hP y (am hy)) (hP u (am e)) h (hs.at q hy e)
theorem Iv.pushB(h:Iv lt T out (la.drop ia++lb.drop ib))(sb:Sd lt lb)(hy:lb[ib]?=some y)(hl:∀u∈la.drop ia,lt u y=false):Iv lt T (out++[y]) (la.drop ia++lb.drop (ib+1)):=by
 refine h.step ?_ (bB _ _) λx q u B=>?_
 ·rw[bJh hy];exact eQ
 ·rw[aH.mp q];rcases aS.mp B with z|z
  ·exact hl u z
  ·obtain⟨j,D,e⟩:=aQm z;exact sb.at (by omega) hy e
theorem Iv.pushA(h:Iv lt T out (la.drop ia++lb.drop ib))(sa:Sd lt la)(hx:la[ia]?=some x)(hl:∀u∈lb.drop ib,lt u x=false):Iv lt T (out++[x]) (la.drop (ia+1)++lb.drop ib):=by
 refine h.step ?_ (bB _ _) λz q u B=>?_
 ·rw[bJh hx];exact dI _
 ·rw[aH.mp q];rcases aS.mp B with z|z
  ·obtain⟨j,D,e⟩:=aQm z;exact sa.at (by omega) hx e
  ·exact hl u z
theorem Iv.blockA(h:Iv lt T out (la.drop ia++lb.drop ib))(sa:Sd lt la)(k:Nat)(hl:∀z∈(la.drop ia).take k,∀u∈lb.drop ib,lt u z=false):Iv lt T (out++(la.drop ia).take k) (la.drop (ia+k)++lb.drop ib):=by
 have e:la.drop ia=(la.drop ia).take k++la.drop (ia+k):=by rw[<- iX];exact(bJ k _).symm
 have sd:=sa.drop ia;rw[e] at sd;obtain⟨s1,_,s3⟩:=bG.mp sd;refine h.step ?_ s1 λz j u q=>?_
 ·rw[<- bd,<- e]
 ·rcases aS.mp q with v|v
  ·exact s3 z j u v
  ·exact hl z j u v
theorem Iv.blockB(h:Iv lt T out (la.drop ia++lb.drop ib))(sb:Sd lt lb)(k:Nat)(hl:∀z∈(lb.drop ib).take k,∀u∈la.drop ia,lt u z=false):Iv lt T (out++(lb.drop ib).take k) (la.drop ia++lb.drop (ib+k)):=by
 have e:lb.drop ib=(lb.drop ib).take k++lb.drop (ib+k):=by rw[<- iX];exact(bJ k _).symm
 have sd:=sb.drop ib;rw[e] at sd;obtain⟨s1,_,s3⟩:=bG.mp sd;refine h.step ?_ s1 λz j u q=>?_
 ·have B:la.drop ia++lb.drop ib=la.drop ia++((lb.drop ib).take k++lb.drop (ib+k)):=by rw[<- e]
  rw[B,<- bd,<- bd];exact eI _ dY
 ·rcases aS.mp q with v|v
  ·exact hl z j u v
  ·exact s3 z j u v
theorem aZs{l:List aP}{i k:Nat}{z:aP}(h:z∈(l.drop i).take k):∃j,j<k/\l[i+j]?=some z:=by
 obtain⟨j,q,e⟩:=bh h;rw[aM,bm] at q;rw[gP,gQ] at e;exact⟨j,by omega,by rw[af (by omega),e]⟩
end
theorem aZh(a:Array aP)(i j:Nat):(a.extract i j).toList=(a.toList.drop i).take (j-i):=by simp
theorem bJi(a:Array aP)(i:Nat):(a.extract i a.size).toList=a.toList.drop i:=by
 rw[aZh];exact bN (by rw[bm];simp)
end SF
theorem hd{g:Prop}(h:∀G:Prop,(g->G)->G):g:=h g id
namespace SF
open PySem PyProof.Rows
section
variable{prog:au}{w:aN}{A:bj}{E:ae->aj->Prop}{s:aj}{κ:fw}{P:aP->Prop}{lt:aP->aP->Bool}
theorem aQc{a:Array aP}{i:Nat}(h:i<a.size):∃x,a[i]?=some x/\a.toList[i]?=some x:=⟨a[i],by simp[h],by simp[h]⟩
theorem aQx{σ α:Type}{M:Model}{c:Prop}{di:Decidable c}{X Y:StateT σ Sem α}{Q:α->σ->Prop}{st:σ}(hc:c)(h:wpS M A E s X Q st):wpS M A E s (@ite _ c di X Y) Q st:=by rw[if_pos hc];exact h
theorem aQy{σ α:Type}{M:Model}{c:Prop}{di:Decidable c}{X Y:StateT σ Sem α}{Q:α->σ->Prop}{st:σ}(hc:¬ c)(h:wpS M A E s Y Q st):wpS M A E s (@ite _ c di X Y) Q st:=by rw[if_neg hc];exact h
theorem dXu{σ α:Type}{M:Model}{c:Nat->Prop}{di:∀n,Decidable (c n)}{X Y:Nat->StateT σ Sem α}{Q:α->σ->Prop}{st:σ}(e:∀n,X n=Y (n-1))(h:∀m,wpS M A E s (Y m) Q st)(n:Nat):wpS M A E s (@ite _ (c n) (di n) (X n) (Y n)) Q st:=by
 split
 ·rw[e];exact h _
 ·exact h _
theorem fQ7(o:Orc prog w A s κ P lt){st:cW}{a b:Array aP}{Q:Array aP->cW->Prop}(hk:kindOf st=κ)(pa:∀x∈a.toList,P x)(pb:∀y∈b.toList,P y)(sa:Sd lt a.toList)(sb:Sd lt b.toList)(na:1<=a.size)(nb:1<=b.size)
  (hfst:∀y,b.toList[0]?=some y->∀x∈a.toList,lt x y=false) (hlst:∀z,a.toList[a.size-1]?=some z->∀y∈b.toList,lt z y=false)
  (h:∀out g,Sd lt out.toList->out.toList.Perm (a.toList++b.toList)->Q out (setG st g)):wpS (aF prog w) A E s (mLo a b) Q st:=by
 have sz:(a.toList++b.toList).length=a.size+b.size:=by simp
 have finA:∀(out:Array aP) ia ib g,ib=b.size->Iv lt (a.toList++b.toList) out.toList (a.toList.drop ia++b.toList.drop ib)->Q (out++a.extract ia a.size++b.extract ib b.size) (setG st g):=λout ia ib g e iv=>by
  have e0:b.toList.drop ib=[]:=bQ (by simp[e])
  rw[e0,cr] at iv
  have:=iv.done (sa.drop ia)
  refine h _ g ?_ ?_ <;> simp only[bS,bJi,e0,cr]
  ·exact this.1
  ·exact this.2
 have finB:∀(out:Array aP) ia ib g,ia=a.size->Iv lt (a.toList++b.toList) out.toList (a.toList.drop ia++b.toList.drop ib)->Q (out++a.extract ia a.size++b.extract ib b.size) (setG st g):=λout ia ib g e iv=>by
  have e0:a.toList.drop ia=[]:=bQ (by simp[e])
  rw[e0,bP] at iv
  have:=iv.done (sb.drop ib)
  refine h _ g ?_ ?_ <;> simp only[bS,bJi,e0,cr]
  ·exact this.1
  ·exact this.2
 have finL:∀(out:Array aP) ia ib g,ia+1=a.size->Iv lt (a.toList++b.toList) out.toList (a.toList.drop ia++b.toList.drop ib)->Q (out++b.extract ib b.size++a.extract ia a.size) (setG st g):=λout ia ib g e iv=>by
  obtain⟨z,hz,J⟩:=aQc (a:=a) (i:=ia) (by lia)
  have e0:a.toList.drop ia=[z]:=by rw[bJh J,bQ (by simp;lia)]
  have iv2:=iv.perm' dY;have hz2:a.toList[a.size-1]?=some z:=by rw[<- e];exact J
  have:=iv2.done (bG.mpr ⟨sb.drop ib,sa.drop ia,λx hx y hy=>by
   rw[e0] at hy;rw[aH.mp hy];exact hlst z hz2 x (en hx)⟩)
  refine h _ g ?_ ?_ <;> simp only[bS,bJi,bd]
  ·exact this.1
  ·exact this.2
 have t2:∀(U:ForInStep (Option (Array aP)×Array aP×Nat×Nat×Nat×Nat×Nat)->cW->Prop) (out:Array aP) (ia ib mg ac bc g:Nat),(∀r c',Q r (setG st g)->U (.done (some r,c')) (setG st g)) ->
   (∀D B G ac' bc',B+1<a.size->G<b.size->Iv lt (a.toList++b.toList) D.toList (a.toList.drop B++b.toList.drop G)->out.size<=D.size->U (.done (none,D,B,G,mg,ac',bc')) (setG st g)/\U (.yield (none,D,B,G,mg,ac',bc')) (setG st g)) ->
   ia+1<a.size->ib<b.size->Iv lt (a.toList++b.toList) out.toList (a.toList.drop ia++b.toList.drop ib)->(∀x,a.toList[ia]?=some x->∀u∈b.toList.drop ib,lt u x=false) ->
   wpS (aF prog w) A E s (do
    let x <- eU a ia
    if (ia+1+1==a.size)=true then pure (bD (some (out.push x++b.extract ib b.size++a.extract (ia+1) a.size),out.push x,ia+1,ib,mg,ac,bc))
    else if (decide (ac<7)&&decide (bc<7))=true then pure (bD (none,out.push x,ia+1,ib,mg,ac,bc))
    else pure (bM (none,out.push x,ia+1,ib,mg,ac,bc))) U (setG st g):=by
  intro U out ia ib mg ac bc g hd hg hia hib iv hl;obtain⟨x1,hx1,Z⟩:=aQc (a:=a) (i:=ia) (by lia)
  refine az (aZe hx1 ?_);have iv2:Iv lt (a.toList++b.toList) (out.push x1).toList (a.toList.drop (ia+1)++b.toList.drop ib):=by
   rw[cC];exact iv.pushA sa Z (hl x1 Z)
  have sp:(out.push x1).size=out.size+1:=dR ..
  by_cases c1:(ia+1+1==a.size)=true
  ·refine aQx c1 ?_;exact aG (hd _ _ (finL _ _ _ g (by simpa using c1) iv2))
  ·refine aQy c1 ?_;have c1':ia+1+1≠a.size:=by simpa using c1
   have:=hg (out.push x1) (ia+1) ib ac bc (by lia) hib iv2 (by lia)
   by_cases c2:(decide (ac<7)&&decide (bc<7))=true
   ·refine aQx c2 ?_;exact aG this.1
   ·refine aQy c2 ?_;exact aG this.2
 have t1:∀(U:ForInStep (Option (Array aP)×Array aP×Nat×Nat×Nat×Nat×Nat)->cW->Prop) (out:Array aP) (ia ib mg ac bc g:Nat),(∀r c',Q r (setG st g)->U (.done (some r,c')) (setG st g)) ->
   (∀D B G ac' bc',B+1<a.size->G<b.size->Iv lt (a.toList++b.toList) D.toList (a.toList.drop B++b.toList.drop G)->out.size<=D.size->U (.done (none,D,B,G,mg,ac',bc')) (setG st g)/\U (.yield (none,D,B,G,mg,ac',bc')) (setG st g)) ->
   ia+1<a.size->ib<b.size->Iv lt (a.toList++b.toList) out.toList (a.toList.drop ia++b.toList.drop ib)->(∀y,b.toList[ib]?=some y->∀u∈a.toList.drop ia,lt u y=false) ->
   wpS (aF prog w) A E s (do
    let y <- eU b ib
    if (ib+1==b.size)=true then pure (bD (some (out.push y++a.extract ia a.size++b.extract (ib+1) b.size),out.push y,ia,ib+1,mg,ac,bc))
    else do
     let x <- eU a ia
     let z <- gal true x b (ib+1) (b.size-(ib+1)) 0
     match z with
     |some k1 =>
      if k1>0 then
       if (ib+1+k1==b.size)=true then pure (bD (some (out.push y++b.extract (ib+1) (ib+1+k1)++a.extract ia a.size++b.extract (ib+1+k1) b.size),out.push y++b.extract (ib+1) (ib+1+k1),ia,ib+1+k1,mg,ac,k1))
       else do
        let x <- eU a ia
        if (ia+1+1==a.size)=true then pure (bD (some ((out.push y++b.extract (ib+1) (ib+1+k1)).push x++b.extract (ib+1+k1) b.size++a.extract (ia+1) a.size),(out.push y++b.extract (ib+1) (ib+1+k1)).push x,ia+1,ib+1+k1,mg,ac,k1))
        else if (decide (ac<7)&&decide (k1<7))=true then pure (bD (none,(out.push y++b.extract (ib+1) (ib+1+k1)).push x,ia+1,ib+1+k1,mg,ac,k1))
        else pure (bM (none,(out.push y++b.extract (ib+1) (ib+1+k1)).push x,ia+1,ib+1+k1,mg,ac,k1))
      else do
       let x <- eU a ia
       if (ia+1+1==a.size)=true then pure (bD (some ((out.push y).push x++b.extract (ib+1) b.size++a.extract (ia+1) a.size),(out.push y).push x,ia+1,ib+1,mg,ac,k1))
       else if (decide (ac<7)&&decide (k1<7))=true then pure (bD (none,(out.push y).push x,ia+1,ib+1,mg,ac,k1))
       else pure (bM (none,(out.push y).push x,ia+1,ib+1,mg,ac,k1))
     |_=>pure (bD (some (out.push y++a.extract ia a.size++b.extract (ib+1) b.size),out.push y,ia,ib+1,mg,ac,bc))) U (setG st g):=by
  intro U out ia ib mg ac bc g hd hg hia hib iv hl;obtain⟨y1,hy1,Y⟩:=aQc (a:=b) (i:=ib) hib;obtain⟨x1,hx1,Z⟩:=aQc (a:=a) (i:=ia) (by lia)
  have px1:=pa x1 (am Z);refine az (aZe hy1 ?_);have iv2:Iv lt (a.toList++b.toList) (out.push y1).toList (a.toList.drop ia++b.toList.drop (ib+1)):=by
   rw[cC];exact iv.pushB sb Y (hl y1 Y)
  have sp:(out.push y1).size=out.size+1:=dR ..
  by_cases c1:(ib+1==b.size)=true
  ·refine aQx c1 ?_;exact aG (hd _ _ (finA _ _ _ g (by simpa using c1) iv2))
  refine aQy c1 ?_;have c1':ib+1≠b.size:=by simpa using c1
  refine az (aZe hx1 (az (bZ2 o (f:=λi=>b.toList.getD (ib+1+i) (.none,.none)) hk px1 (λi hi=>?_) (λi j hij hj hb=>?_) (by lia) λk k1 k2 k3=>?_)))
  ·obtain⟨z,hz,J⟩:=aQc (a:=b) (i:=ib+1+i) (by lia)
   rw[ai,J];exact⟨hz,pb z (am J)⟩
  ·obtain⟨z,hz,J⟩:=aQc (a:=b) (i:=ib+1+i) (by lia)
   obtain⟨z',hz',hzl'⟩:=aQc (a:=b) (i:=ib+1+j) (by lia)
   rw[ai,hzl'] at hb;rw[ai,J];have hb':lt z' x1=true:=hb;show lt z x1=true;cases e:lt z x1 with
   |true=>rfl
   |false =>
    exfalso;have pz:=pb z (am J);have pz':=pb z' (am hzl');rcases Nat.eq_or_lt_of_le hij with rfl|hlt
    ·rw[J] at hzl';cases hzl';rw[e] at hb';cases hb'
    ·have:=o.tr x1 z z' px1 pz pz' e (sb.at (by lia) J hzl')
     rw[hb'] at this;cases this
  have behind:∀j y,ib+1+k<=j->b.toList[j]?=some y->lt y x1=false:=λj y hj hy=>by
   have hjb:j<b.size:=by have:=(aB.mp hy).1;simpa using this
   have:=k3 (j-(ib+1)) (by lia) (by lia)
   rw[ai,show ib+1+(j-(ib+1))=j by lia,hy] at this
   exact this
  dsimp only
  by_cases ck:k>0
  ·refine aQx ck ?_;have iv3:Iv lt (a.toList++b.toList) (out.push y1++b.extract (ib+1) (ib+1+k)).toList (a.toList.drop ia++b.toList.drop (ib+1+k)):=by
    rw[bS,aZh,show ib+1+k-(ib+1)=k by lia]
    refine iv2.blockB sb k λz hz u hu=>?_;obtain⟨j,hj,J⟩:=aZs hz;have pz:=pb z (am J);have hb:=k2 j hj;rw[ai,J] at hb;exact bXm o pa sa pz Z (o.as _ _ pz px1 hb) u hu
   have sz3:out.size<=(out.push y1++b.extract (ib+1) (ib+1+k)).size:=by rw[de];lia
   by_cases c3:(ib+1+k==b.size)=true
   ·refine aQx c3 ?_;exact aG (hd _ _ (finA _ _ _ g (by simpa using c3) iv3))
   ·refine aQy c3 ?_;have c3':ib+1+k≠b.size:=by simpa using c3
    refine t2 U _ ia (ib+1+k) mg ac k g hd (λo' i1 i2 a1 b1 q1 q2 q3 q4=>hg o' i1 i2 a1 b1 q1 q2 q3 (by lia)) hia (by lia) iv3 λx hx u hu=>?_
    rw[Z] at hx;cases hx;obtain⟨j,hj,e⟩:=aQm hu;exact behind j u hj e
  ·refine aQy ck ?_;have k0:k=0:=by lia
   refine t2 U _ ia (ib+1) mg ac k g hd (λo' i1 i2 a1 b1 q1 q2 q3 q4=>hg o' i1 i2 a1 b1 q1 q2 q3 (by lia)) hia (by lia) iv2 λx hx u hu=>?_
   rw[Z] at hx;cases hx;obtain⟨j,hj,e⟩:=aQm hu;exact behind j u (by lia) e
 rw[fQ6];refine az (iW (dG ⟨rfl,?_⟩));dsimp only;obtain⟨y0,hy0,hy0l⟩:=aQc (a:=b) (i:=0) nb;refine az (aZe hy0 ?_);have iv0:Iv lt (a.toList++b.toList) (#[y0]:Array aP).toList (a.toList.drop 0++b.toList.drop 1):=by
  have i0:Iv lt (a.toList++b.toList) [] (a.toList.drop 0++b.toList.drop 0):=⟨by simp,gT,by simp⟩
  exact i0.pushB sb hy0l λu hu=>hfst y0 hy0l u hu
 have est:st=setG st (gallopOf st):=rfl
 by_cases hb1:(1==b.size)=true
 ·refine aQx hb1 ?_;refine aG ?_;rw[est];exact finA _ 0 1 _ (by simpa using hb1) iv0
 refine aQy hb1 ?_
 by_cases ha1:(0+1==a.size)=true
 ·refine aQx ha1 ?_;refine aG ?_;rw[est];exact finL _ 0 1 _ (by simpa using ha1) iv0
 refine aQy ha1 ?_;have hb2:1<b.size:=by
  have:1≠b.size:=by simpa using hb1
  lia
 have ha2:0+1<a.size:=by
  have:0+1≠a.size:=by simpa using ha1
  lia
 refine az (iF ?_);refine az (dw (b9 (I:=λx c L=>∃ out ia ib mg g,c=(none,out,ia,ib,mg)/\L=setG st g/\ia + 1 < a.size/\ib < b.size/\Iv lt (a.toList++b.toList) out.toList (a.toList.drop ia++b.toList.drop ib)/\x + 1<=out.size)
  (Q:=λc L=>∃r,c.fst=some r/\Q r L) ?_ ?_ ⟨#[y0],0,1,_,_,rfl,est,ha2,hb2,iv0,by simp⟩) ?_)
 ·intro x c L _ hx zq;refine hd λGq kq=>?_;obtain⟨out,ia,ib,mg,g,rfl,rfl,hia,hib,iv,hsz⟩:=zq;refine kq ?_;dsimp only;refine az (dw (b9 (I:=λy c L=>∃ D B G ac bc,c=(none,D,B,G,ac,bc)/\L=setG st g/\B + 1 < a.size/\G < b.size/\Iv lt (a.toList++b.toList) D.toList (a.toList.drop B++b.toList.drop G)/\out.size + y<=D.size)
   (Q:=λc L=>L=setG st g/\((∃r,c.fst=some r/\Q r L)\/∃D B G ac bc,c=(none,D,B,G,ac,bc)/\B+1<a.size/\G<b.size/\Iv lt (a.toList++b.toList) D.toList (a.toList.drop B++b.toList.drop G)/\out.size+1<=D.size)) ?_ ?_ ⟨out,ia,ib,0,0,rfl,rfl,hia,hib,iv,Nat.le_refl _⟩) ?_)
  ·intro y c L _ hy zq;refine hd λGq kq=>?_;obtain⟨D,B,G,ac,bc,rfl,rfl,hia',O,iv',hsz'⟩:=zq;refine kq ?_;obtain⟨x1,hx1,Z⟩:=aQc (a:=a) (i:=B) (by lia)
   obtain⟨y1,hy1,Y⟩:=aQc (a:=b) (i:=G) O;have px1:=pa x1 (am Z);have py1:=pb y1 (am Y);dsimp only;refine az (aZe hy1 (az (aZe hx1 (az (cJ4 o hk py1 px1 ?_)))));dsimp only;cases e:lt y1 x1 with
   |true =>
    refine aQx rfl ?_;refine az (aZe hy1 ?_);have iv2:Iv lt (a.toList++b.toList) (D.push y1).toList (a.toList.drop B++b.toList.drop (G+1)):=by
     rw[cC];exact iv'.pushB sb Y (bXm o pa sa py1 Z (o.as _ _ py1 px1 e))
    have sp:(D.push y1).size=D.size+1:=dR ..
    by_cases c1:(G+1==b.size)=true
    ·refine aQx c1 ?_;exact aG ⟨rfl,.inl ⟨_,rfl,finA _ _ _ g (by simpa using c1) iv2⟩⟩
    ·refine aQy c1 ?_;have c1':G+1≠b.size:=by simpa using c1
     by_cases c2:bc+1>=mg
     ·refine aQx c2 ?_;exact aG ⟨rfl,.inr ⟨_,_,_,_,_,rfl,hia',by lia,iv2,by lia⟩⟩
     ·refine aQy c2 ?_;exact aG ⟨_,_,_,_,_,rfl,rfl,hia',by lia,iv2,by lia⟩
   |false =>
    refine aQy (by simp) ?_
    refine az (aZe hx1 ?_);have iv2:Iv lt (a.toList++b.toList) (D.push x1).toList (a.toList.drop (B+1)++b.toList.drop G):=by
     rw[cC];exact iv'.pushA sa Z (bXm o pb sb px1 Y e)
    have sp:(D.push x1).size=D.size+1:=dR ..
    by_cases c1:(B+1+1==a.size)=true
    ·refine aQx c1 ?_;exact aG ⟨rfl,.inl ⟨_,rfl,finL _ _ _ g (by simpa using c1) iv2⟩⟩
    ·refine aQy c1 ?_;have c1':B+1+1≠a.size:=by simpa using c1
     by_cases c2:ac+1>=mg
     ·refine aQx c2 ?_;exact aG ⟨rfl,.inr ⟨_,_,_,_,_,rfl,by lia,O,iv2,by lia⟩⟩
     ·refine aQy c2 ?_;exact aG ⟨_,_,_,_,_,rfl,rfl,by lia,O,iv2,by lia⟩
  ·intro c L zq;refine hd λGq kq=>?_;obtain⟨D,B,G,ac,bc,rfl,rfl,hia',O,iv',hsz'⟩:=zq;refine kq ?_;exact⟨rfl,.inr ⟨_,_,_,_,_,rfl,hia',O,iv',by lia⟩⟩
  ·rintro c L ⟨rfl,⟨r,hr,q⟩|⟨out1,ia1,ib1,ac1,bc1,rfl,hia1,hib1,iv1,hsz1⟩⟩
   ·obtain⟨c1,c2⟩:=c;dsimp only at hr;subst hr;exact aG ⟨r,rfl,q⟩
   ·dsimp only;refine az (iW (dG ⟨rfl,?_⟩));refine az (dw (b9 (I:=λy c L=>∃ D B G mg' ac bc g',c=(none,D,B,G,mg',ac,bc)/\L=setG st g'/\B + 1 < a.size/\G < b.size/\Iv lt (a.toList++b.toList) D.toList (a.toList.drop B++b.toList.drop G)/\out1.size<=D.size)
     (Q:=λc L=>(∃r,c.fst=some r/\Q r L)\/∃D B G mg' ac bc g',c=(none,D,B,G,mg',ac,bc)/\L=setG st g'/\B+1<a.size/\G<b.size/\Iv lt (a.toList++b.toList) D.toList (a.toList.drop B++b.toList.drop G)/\out1.size<=D.size) ?_ ?_ ⟨out1,ia1,ib1,_,ac1,bc1,g,rfl,rfl,hia1,hib1,iv1,Nat.le_refl _⟩) ?_)
    ·intro y c L _ hy zq;refine hd λGq kq=>?_;obtain⟨D,B,G,mg',ac,bc,g',rfl,rfl,hia',O,iv',hsz'⟩:=zq;refine kq ?_;dsimp only;obtain⟨y1,hy1,Y⟩:=aQc (a:=b) (i:=G) O;have py1:=pb y1 (am Y);have fa:∀i,i<a.size-B->a[B+i]?=some (a.toList.getD (B+i) (.none,.none))/\P (a.toList.getD (B+i) (.none,.none)):=λi hi=>by
      obtain⟨z,hz,J⟩:=aQc (a:=a) (i:=B+i) (by lia)
      rw[ai,J];exact⟨hz,pa z (am J)⟩
     have mono:∀i j,i<=j->j<a.size-B->bv lt false y1 (a.toList.getD (B+j) (.none,.none))=true->bv lt false y1 (a.toList.getD (B+i) (.none,.none))=true:=λi j hij hj hb=>by
      obtain⟨z,hz,J⟩:=aQc (a:=a) (i:=B+i) (by lia)
      obtain⟨z',hz',hzl'⟩:=aQc (a:=a) (i:=B+j) (by lia)
      rw[ai,hzl'] at hb;rw[ai,J];have hb':lt y1 z'=false:=by simpa [bv] using hb
      show(!lt y1 z)=true;rcases Nat.eq_or_lt_of_le hij with rfl|hlt
      ·rw[J] at hzl';cases hzl';rw[hb'];rfl
      ·rw[o.tr z z' y1 (pa z (am J)) (pa z' (am hzl')) py1 (sa.at (by lia) J hzl') hb'];rfl
     clear kq
     revert mg'
     refine dXu (λ_=>rfl) λm2=>?_;refine az (cX (az (aZe hy1 (az (bZ2 o (f:=λi=>a.toList.getD (B+i) (.none,.none)) hk py1 fa mono (by lia) λk k1 k2 k3=>?_)))))
     dsimp only;have behind:∀j z,B+k<=j->a.toList[j]?=some z->lt z y1=false:=λj z hj hz=>by
      have hja:j<a.size:=by have:=(aB.mp hz).1;simpa using this
      have:=k3 (j-B) (by lia) (by lia)
      rw[ai,show B+(j-B)=j by lia,hz] at this
      have h1:(!lt y1 z)=false:=this;exact o.as _ _ py1 (pa z (am hz)) (by simpa using h1)
     by_cases ck:k>0
     ·refine aQx ck ?_;have iv3:Iv lt (a.toList++b.toList) (D++a.extract B (B+k)).toList (a.toList.drop (B+k)++b.toList.drop G):=by
       rw[bS,aZh,show B+k-B=k by lia]
       refine iv'.blockA sa k λz hz u hu=>?_;obtain⟨j,hj,J⟩:=aZs hz;have hb:=k2 j hj;rw[ai,J] at hb;have h1:(!lt y1 z)=true:=hb;exact bXm o pb sb (pa z (am J)) Y (by simpa using h1) u hu
      have sz3:out1.size<=(D++a.extract B (B+k)).size:=by rw[de];lia
      by_cases c3:(B+k+1==a.size)=true
      ·refine aQx c3 ?_;exact aG (.inl ⟨_,rfl,finL _ _ _ _ (by simpa using c3) iv3⟩)
      ·refine aQy c3 ?_;have c3':B+k+1≠a.size:=by simpa using c3
       by_cases c4:(B+k==a.size)=true
       ·refine aQx c4 ?_;exact aG (.inl ⟨_,rfl,finB _ _ _ _ (by simpa using c4) iv3⟩)
       ·refine aQy c4 ?_;have c4':B+k≠a.size:=by simpa using c4
        refine t1 _ _ (B+k) G m2 k bc m2 (λr c' q=>.inl ⟨r,rfl,q⟩) (λo' i1 i2 a1 b1 q1 q2 q3 q4=>⟨.inr ⟨_,_,_,_,_,_,_,rfl,rfl,q1,q2,q3,by lia⟩,⟨_,_,_,_,_,_,_,rfl,rfl,q1,q2,q3,by lia⟩⟩) (by lia) O iv3 λy hy u hu=>?_
        rw[Y] at hy;cases hy;obtain⟨j,hj,e⟩:=aQm hu;exact behind j u hj e
     ·refine aQy ck ?_;refine t1 _ _ B G m2 k bc m2 (λr c' q=>.inl ⟨r,rfl,q⟩) (λo' i1 i2 a1 b1 q1 q2 q3 q4=>⟨.inr ⟨_,_,_,_,_,_,_,rfl,rfl,q1,q2,q3,by lia⟩,⟨_,_,_,_,_,_,_,rfl,rfl,q1,q2,q3,by lia⟩⟩) hia' O iv' λy hy u hu=>?_
      rw[Y] at hy;cases hy;obtain⟨j,hj,e⟩:=aQm hu;exact behind j u (by lia) e
    ·intro c L zq;refine hd λGq kq=>?_;obtain⟨D,B,G,mg',ac,bc,g',rfl,rfl,hia',O,iv',hsz'⟩:=zq;refine kq ?_;exact .inr ⟨_,_,_,_,_,_,_,rfl,rfl,hia',O,iv',hsz'⟩
    ·rintro c L (⟨r,hr,q⟩|⟨D,B,G,mg',ac,bc,g',rfl,rfl,hia',O,iv',hsz'⟩)
     ·obtain⟨c1,c2⟩:=c;dsimp only at hr;subst hr;exact aG ⟨r,rfl,q⟩
     ·dsimp only;exact az (cX (aG ⟨_,_,_,_,_,rfl,rfl,hia',O,iv',by lia⟩))
 ·intro c L zq;refine hd λGq kq=>?_;obtain⟨out,ia,ib,mg,g,rfl,rfl,hia,hib,iv,hsz⟩:=zq;refine kq ?_;exfalso
  have:=iv.size
  rw[sz,bn] at this;lia
 ·rintro c L ⟨r,hr,q⟩;obtain⟨c1,c2⟩:=c;dsimp only at hr;subst hr;exact aG q
end
theorem fQ8(a b:Array aP):mHi a b=(do
 rule "list.sort.merge-hi"
 let total:=a.size+b.size
 let fin (o:Array aP) (na nb:Nat):=a.extract 0 na++b.extract 0 nb++o.reverse
 let fst (o:Array aP) (na nb:Nat):=b.extract 0 nb++a.extract 0 na++o.reverse
 let mut na:=a.size-1
 let mut nb:=b.size
 let mut out:Array aP:=#[<- eU a na]
 if na==0 then return fin out na nb
 if nb==1 then return fst out na nb
 let mut minGallop:=gallopOf (<- get)
 for _ in [0:total] do
  let mut acount:=0
  let mut bcount:=0
  for _ in [0:total] do
   let some aw <- lt' (<- eU b (nb-1)) (<- eU a (na-1))|return fin out na nb
   if aw then
    na:=na-1
    out:=out.push (<- eU a na)
    acount:=acount+1
    bcount:=0
    if na==0 then return fin out na nb
    if acount>=minGallop then break
   else
    nb:=nb-1
    out:=out.push (<- eU b nb)
    bcount:=bcount+1
    acount:=0
    if nb==1 then return fst out na nb
    if bcount>=minGallop then break
  rule "list.sort.gallop"
  minGallop:=minGallop+1
  for _ in [0:total] do
   if minGallop>1 then minGallop:=minGallop-1
   modify (λs=>setG s minGallop)
   let some p <- gal false (<- eU b (nb-1)) a 0 na (na-1)|return fin out na nb
   let k:=na-p
   acount:=k
   if k>0 then
    out:=out++(a.extract p na).reverse
    na:=p
    if na==0 then return fin out na nb
   nb:=nb-1
   out:=out.push (<- eU b nb)
   if nb==1 then return fst out na nb
   let some p <- gal true (<- eU a (na-1)) b 0 nb (nb-1)|return fin out na nb
   let k:=nb-p
   bcount:=k
   if k>0 then
    out:=out++(b.extract p nb).reverse
    nb:=p
    if nb==1 then return fst out na nb
    if nb==0 then return fin out na nb
   na:=na-1
   out:=out.push (<- eU a na)
   if na==0 then return fin out na nb
   if acount<7&&bcount<7 then break
  minGallop:=minGallop+1
  modify (λs=>setG s minGallop)
 fz "internal:list.sort.merge-bound"):=rfl
section
variable{α:Type}{lt:α->α->Bool}{T out rest:List α}
abbrev rl(lt:α->α->Bool):α->α->Bool:=λx y=>lt y x
theorem Iv.doneR(h:Iv (rl lt) T out rest){l:List α}(hp:l.Perm rest)(hs:Sd lt l):Sd lt (l++out.reverse)/\(l++out.reverse).Perm T:=by
 refine⟨bG.mpr ⟨hs,g8.mpr h.sd,λx q y j=>h.lo y (jJ.mp j) x (hp.mem_iff.mp q)⟩,?_⟩;exact(List.Perm.append hp (jh out)).trans (dY.trans h.perm)
theorem bJj{l:List α}{i:Nat}{x:α}(h:l[i]?=some x):l.take (i+1)=l.take i++[x]:=by rw[cE,h];rfl
theorem Sd.take{l:List α}(h:Sd lt l)(i:Nat):Sd lt (l.take i):=h.sublist (jc _ _)
theorem aQo{l:List α}{i:Nat}{y:α}(h:y∈l.take i):∃j,j<i/\l[j]?=some y:=by
 obtain⟨k,q,e⟩:=bh h;rw[aM] at q;rw[gP] at e;exact⟨k,by lia,by rw[af (by lia),e]⟩
end
section
variable{prog:au}{w:aN}{A:bj}{s:aj}{κ:fw}{P:aP->Prop}{lt:aP->aP->Bool}{T out la lb:List aP}{na nb:Nat}{x y:aP}
theorem bXn(o:Orc prog w A s κ P lt){l:List aP}(hP:∀z∈l,P z)(hs:Sd lt l){i:Nat}{z:aP}(hz:P z){y:aP}(hy:l[i]?=some y)(h:lt z y=false):∀u∈l.take (i+1),lt z u=false:=λu B=>by
 obtain⟨j,D,e⟩:=aQo B;rcases Nat.eq_or_lt_of_le (Nat.le_of_lt_succ D) with rfl|q
 ·rw[hy] at e;cases e;exact h
 ·exact o.tr u y z (hP u (am e)) (hP y (am hy)) hz (hs.at q e hy) h
theorem Iv.popA(h:Iv (rl lt) T out (la.take (na+1)++lb.take nb))(sa:Sd lt la)(hx:la[na]?=some x)(hl:∀u∈lb.take nb,lt x u=false):Iv (rl lt) T (out++[x]) (la.take na++lb.take nb):=by
 refine h.step ?_ (bB _ _) λz q u B=>?_
 ·rw[bJj hx,bd];exact eQ
 ·rw[aH.mp q];rcases aS.mp B with v|v
  ·obtain⟨j,D,e⟩:=aQo v;exact sa.at D e hx
  ·exact hl u v
theorem Iv.popB(h:Iv (rl lt) T out (la.take na++lb.take (nb+1)))(sb:Sd lt lb)(hy:lb[nb]?=some y)(hl:∀u∈la.take na,lt y u=false):Iv (rl lt) T (out++[y]) (la.take na++lb.take nb):=by
 refine h.step ?_ (bB _ _) λz q u B=>?_
 ·rw[bJj hy,<- bd];exact dY
 ·rw[aH.mp q];rcases aS.mp B with v|v
  ·exact hl u v
  ·obtain⟨j,D,e⟩:=aQo v;exact sb.at D e hy
theorem cJ5(l:List aP){p n:Nat}(h:p<=n):l.take n=l.take p++(l.drop p).take (n-p):=by
 have:n=p+(n-p):=by lia
 rw[this,List.take_add];simp
theorem Iv.backA(h:Iv (rl lt) T out (la.take na++lb.take nb))(sa:Sd lt la){p:Nat}(hp:p<=na)(hl:∀z∈(la.drop p).take (na-p),∀u∈lb.take nb,lt z u=false):Iv (rl lt) T (out++((la.drop p).take (na-p)).reverse) (la.take p++lb.take nb):=by
 have e:=cJ5 la hp;have sd:=sa.take na;rw[e] at sd;obtain⟨_,s2,s3⟩:=bG.mp sd;refine h.step ?_ (g8.mpr s2) λz j u q=>?_
 ·rw[e,bd];refine(List.perm_append_comm_assoc _ _ _).trans ?_;exact eI _ (jh _).symm
 ·have j:=jJ.mp j;rcases aS.mp q with v|v
  ·exact s3 u v z j
  ·exact hl z j u v
theorem Iv.backB(h:Iv (rl lt) T out (la.take na++lb.take nb))(sb:Sd lt lb){p:Nat}(hp:p<=nb)(hl:∀z∈(lb.drop p).take (nb-p),∀u∈la.take na,lt z u=false):Iv (rl lt) T (out++((lb.drop p).take (nb-p)).reverse) (la.take na++lb.take p):=by
 have e:=cJ5 lb hp;have sd:=sb.take nb;rw[e] at sd;obtain⟨_,s2,s3⟩:=bG.mp sd;refine h.step ?_ (g8.mpr s2) λz j u q=>?_
 ·rw[e,<- bd];refine dY.trans ?_;exact eI _ (jh _).symm
 ·have j:=jJ.mp j;rcases aS.mp q with v|v
  ·exact hl z j u v
  ·exact s3 u v z j
end
theorem dXv(a:Array aP)(n:Nat):(a.extract 0 n).toList=a.toList.take n:=by rw[aZh];simp
section
variable{prog:au}{w:aN}{A:bj}{E:ae->aj->Prop}{s:aj}{κ:fw}{P:aP->Prop}{lt:aP->aP->Bool}
theorem fQ9(o:Orc prog w A s κ P lt){st:cW}{a b:Array aP}{Q:Array aP->cW->Prop}(hk:kindOf st=κ)(pa:∀x∈a.toList,P x)(pb:∀y∈b.toList,P y)(sa:Sd lt a.toList)(sb:Sd lt b.toList)(na0:1<=a.size)(nb0:1<=b.size)
  (hfst:∀y,b.toList[0]?=some y->∀x∈a.toList,lt x y=false) (hlst:∀z,a.toList[a.size-1]?=some z->∀y∈b.toList,lt z y=false)
  (h:∀out g,Sd lt out.toList->out.toList.Perm (a.toList++b.toList)->Q out (setG st g)):wpS (aF prog w) A E s (mHi a b) Q st:=by
 have sz:(a.toList++b.toList).length=a.size+b.size:=by simp
 have finG:∀(out:Array aP) na nb g,Sd lt (a.toList.take na++b.toList.take nb)->Iv (rl lt) (a.toList++b.toList) out.toList (a.toList.take na++b.toList.take nb)->Q (a.extract 0 na++b.extract 0 nb++out.reverse) (setG st g):=λout na nb g e iv=>by
  have:=iv.doneR (dI _) e
  refine h _ g ?_ ?_ <;> simp only[bS,fT,dXv]
  ·exact this.1
  ·exact this.2
 have finF:∀(out:Array aP) na nb g,nb=1->Iv (rl lt) (a.toList++b.toList) out.toList (a.toList.take na++b.toList.take nb)->Q (b.extract 0 nb++a.extract 0 na++out.reverse) (setG st g):=λout na nb g e iv=>by
  obtain⟨y0,hy0,hy0l⟩:=aQc (a:=b) (i:=0) nb0;have e1:b.toList.take nb=[y0]:=by rw[e];exact(bJj (i:=0) hy0l)
  have sd:Sd lt (b.toList.take nb++a.toList.take na):=by
   rw[e1];exact aX.mpr ⟨λu hu=>hfst y0 hy0l u (du hu),sa.take na⟩
  have:=iv.doneR dY sd
  refine h _ g ?_ ?_ <;> simp only[bS,fT,dXv]
  ·exact this.1
  ·exact this.2
 have t2:∀(L:ForInStep (Option (Array aP)×Nat×Nat×Array aP×Nat×Nat×Nat)->cW->Prop) (out:Array aP) (na nb mg ac bc g:Nat),(∀r c',Q r (setG st g)->L (.done (some r,c')) (setG st g)) ->
   (∀na' D B ac' bc',1<=na'->(na'<=a.size/\2<=D/\D<=b.size)->Iv (rl lt) (a.toList++b.toList) B.toList (a.toList.take na'++b.toList.take D)->out.size<=B.size->L (.done (none,na',D,B,mg,ac',bc')) (setG st g)/\L (.yield (none,na',D,B,mg,ac',bc')) (setG st g)) ->
   1<=na->na<=a.size->(2<=nb/\nb<=b.size)->Iv (rl lt) (a.toList++b.toList) out.toList (a.toList.take na++b.toList.take nb)->(∀x,a.toList[na-1]?=some x->∀u∈b.toList.take nb,lt x u=false) ->
   wpS (aF prog w) A E s (do
    let x <- eU a (na-1)
    if (na-1==0)=true then pure (bD (some (a.extract 0 (na-1)++b.extract 0 nb++((out).push x).reverse),na-1,nb,(out).push x,mg,ac,bc))
    else if (decide (ac<7)&&decide (bc<7))=true then pure (bD (none,na-1,nb,(out).push x,mg,ac,bc))
    else pure (bM (none,na-1,nb,(out).push x,mg,ac,bc))) L (setG st g):=by
  intro L out na nb mg ac bc g hd hg hna hla hnb iv hl;obtain⟨m,rfl⟩:∃m,na=m+1:=⟨na-1,by lia⟩
  simp only[Nat.add_sub_cancel] at hl ⊢;obtain⟨x1,hx1,U⟩:=aQc (a:=a) (i:=m) (by lia)
  refine az (aZe hx1 ?_);have Z:Iv (rl lt) (a.toList++b.toList) (out.push x1).toList (a.toList.take m++b.toList.take nb):=by
   rw[cC];exact iv.popA sa U (hl x1 U)
  have sp:(out.push x1).size=out.size+1:=dR ..
  by_cases c1:(m==0)=true
  ·have m0:m=0:=by simpa using c1
   refine aQx c1 ?_;refine aG (hd _ _ (finG _ _ _ g ?_ Z));rw[m0];exact sb.take _
  ·refine aQy c1 ?_;have c1':m≠0:=by simpa using c1
   have:=hg m nb (out.push x1) ac bc (by lia) ⟨by lia,hnb⟩ Z (by lia)
   by_cases c2:(decide (ac<7)&&decide (bc<7))=true
   ·refine aQx c2 ?_;exact aG this.1
   ·refine aQy c2 ?_;exact aG this.2
 have t1:∀(L:ForInStep (Option (Array aP)×Nat×Nat×Array aP×Nat×Nat×Nat)->cW->Prop) (out:Array aP) (na nb mg ac bc g:Nat),(∀r c',Q r (setG st g)->L (.done (some r,c')) (setG st g)) ->
   (∀na' D B ac' bc',1<=na'->(na'<=a.size/\2<=D/\D<=b.size)->Iv (rl lt) (a.toList++b.toList) B.toList (a.toList.take na'++b.toList.take D)->out.size<=B.size->L (.done (none,na',D,B,mg,ac',bc')) (setG st g)/\L (.yield (none,na',D,B,mg,ac',bc')) (setG st g)) ->
   1<=na->na<=a.size->(2<=nb/\nb<=b.size)->Iv (rl lt) (a.toList++b.toList) out.toList (a.toList.take na++b.toList.take nb)->(∀y,b.toList[nb-1]?=some y->∀u∈a.toList.take na,lt y u=false) ->
   wpS (aF prog w) A E s (do
    let y <- eU b (nb-1)
    if (nb-1==1)=true then pure (bD (some (b.extract 0 (nb-1)++a.extract 0 na++(out.push y).reverse),na,nb-1,out.push y,mg,ac,bc))
    else do
     let x <- eU a (na-1)
     let z <- gal true x b 0 (nb-1) (nb-1-1)
     match z with
     |some Y =>
      if nb-1-Y>0 then
       if (Y==1)=true then pure (bD (some (b.extract 0 Y++a.extract 0 na++(out.push y++(b.extract Y (nb-1)).reverse).reverse),na,Y,out.push y++(b.extract Y (nb-1)).reverse,mg,ac,nb-1-Y))
       else if (Y==0)=true then pure (bD (some (a.extract 0 na++b.extract 0 Y++(out.push y++(b.extract Y (nb-1)).reverse).reverse),na,Y,out.push y++(b.extract Y (nb-1)).reverse,mg,ac,nb-1-Y))
       else do
        let x <- eU a (na-1)
        if (na-1==0)=true then pure (bD (some (a.extract 0 (na-1)++b.extract 0 Y++((out.push y++(b.extract Y (nb-1)).reverse).push x).reverse),na-1,Y,(out.push y++(b.extract Y (nb-1)).reverse).push x,mg,ac,(nb-1-Y)))
        else if (decide (ac<7)&&decide ((nb-1-Y)<7))=true then pure (bD (none,na-1,Y,(out.push y++(b.extract Y (nb-1)).reverse).push x,mg,ac,(nb-1-Y)))
        else pure (bM (none,na-1,Y,(out.push y++(b.extract Y (nb-1)).reverse).push x,mg,ac,(nb-1-Y)))
      else do
       let x <- eU a (na-1)
       if (na-1==0)=true then pure (bD (some (a.extract 0 (na-1)++b.extract 0 (nb-1)++((out.push y).push x).reverse),na-1,(nb-1),(out.push y).push x,mg,ac,(nb-1-Y)))
       else if (decide (ac<7)&&decide ((nb-1-Y)<7))=true then pure (bD (none,na-1,(nb-1),(out.push y).push x,mg,ac,(nb-1-Y)))
       else pure (bM (none,na-1,(nb-1),(out.push y).push x,mg,ac,(nb-1-Y)))
     |_=>pure (bD (some (a.extract 0 na++b.extract 0 (nb-1)++(out.push y).reverse),na,nb-1,out.push y,mg,ac,bc))) L (setG st g):=by
  intro L out na nb mg ac bc g hd hg hna hla hnb iv hl;obtain⟨m,rfl⟩:∃m,nb=m+1:=⟨nb-1,by lia⟩
  simp only[Nat.add_sub_cancel] at hl ⊢;obtain⟨y1,hy1,O⟩:=aQc (a:=b) (i:=m) (by lia)
  obtain⟨x1,hx1,U⟩:=aQc (a:=a) (i:=na-1) (by lia)
  have px1:=pa x1 (am U);refine az (aZe hy1 ?_);have Z:Iv (rl lt) (a.toList++b.toList) (out.push y1).toList (a.toList.take na++b.toList.take m):=by
   rw[cC];exact iv.popB sb O (hl y1 O)
  have sp:(out.push y1).size=out.size+1:=dR ..
  by_cases c1:(m==1)=true
  ·refine aQx c1 ?_;exact aG (hd _ _ (finF _ _ _ g (by simpa using c1) Z))
  refine aQy c1 ?_;have c1':m≠1:=by simpa using c1
  refine az (aZe hx1 (az (bZ2 o (f:=λi=>b.toList.getD (0+i) (.none,.none)) hk px1 (λi hi=>?_) (λi j hij hj hb=>?_) (by lia) λk k1 k2 k3=>?_)))
  ·obtain⟨z,hz,J⟩:=aQc (a:=b) (i:=0+i) (by lia)
   rw[ai,J];exact⟨hz,pb z (am J)⟩
  ·obtain⟨z,hz,J⟩:=aQc (a:=b) (i:=0+i) (by lia)
   obtain⟨z',hz',hzl'⟩:=aQc (a:=b) (i:=0+j) (by lia)
   rw[ai,hzl'] at hb;rw[ai,J];have hb':lt z' x1=true:=hb;show lt z x1=true;cases e:lt z x1 with
   |true=>rfl
   |false =>
    exfalso;have pz:=pb z (am J);have pz':=pb z' (am hzl');rcases Nat.eq_or_lt_of_le hij with rfl|hlt
    ·rw[J] at hzl';cases hzl';rw[e] at hb';cases hb'
    ·have:=o.tr x1 z z' px1 pz pz' e (sb.at (by lia) J hzl')
     rw[hb'] at this;cases this
  have ahead:∀u∈b.toList.take k,lt x1 u=false:=λu hu=>by
   obtain⟨j,hj,e⟩:=aQo hu
   have:=k2 j hj
   rw[ai,Nat.zero_add,e] at this;exact o.as _ _ (pb u (am e)) px1 this
  dsimp only
  by_cases ck:m-k>0
  ·refine aQx ck ?_;have iv3:Iv (rl lt) (a.toList++b.toList) (out.push y1++(b.extract k m).reverse).toList (a.toList.take na++b.toList.take k):=by
    rw[bS,fT,aZh];refine Z.backB sb k1 λz hz u hu=>?_;obtain⟨j,hj,J⟩:=aZs hz;have pz:=pb z (am J);have hb:=k3 (k+j) (by lia) (by lia)
    rw[ai,Nat.zero_add,J] at hb
    have:=bXn o pa sa pz U hb
    rw[show na-1+1=na by lia] at this
    exact this u hu
   have sz3:out.size<=(out.push y1++(b.extract k m).reverse).size:=by rw[de];lia
   by_cases c3:(k==1)=true
   ·refine aQx c3 ?_;exact aG (hd _ _ (finF _ _ _ g (by simpa using c3) iv3))
   ·refine aQy c3 ?_;have c3':k≠1:=by simpa using c3
    by_cases c4:(k==0)=true
    ·have k0:k=0:=by simpa using c4
     refine aQx c4 ?_;refine aG (hd _ _ (finG _ _ _ g ?_ iv3));rw[k0,iY,cr];exact sa.take _
    ·refine aQy c4 ?_;have c4':k≠0:=by simpa using c4
     refine t2 L _ na k mg ac (m-k) g hd (λn1 n2 o' a1 b1 q1 q2 q3 q4=>hg n1 n2 o' a1 b1 q1 q2 q3 (by lia)) hna hla ⟨by lia,by lia⟩ iv3 λx hx u hu=>?_
     rw[U] at hx;cases hx;exact ahead u hu
  ·refine aQy ck ?_;have ek:k=m:=by lia
   refine t2 L _ na m mg ac (m-k) g hd (λn1 n2 o' a1 b1 q1 q2 q3 q4=>hg n1 n2 o' a1 b1 q1 q2 q3 (by lia)) hna hla ⟨by lia,by lia⟩ Z λx hx u hu=>?_
   rw[U] at hx;cases hx;exact ahead u (by rw[ek];exact hu)
 rw[fQ8];refine az (iW (dG ⟨rfl,?_⟩));dsimp only;obtain⟨x0,hx0,hx0l⟩:=aQc (a:=a) (i:=a.size-1) (by lia)
 refine az (aZe hx0 ?_);have iv0:Iv (rl lt) (a.toList++b.toList) (#[x0]:Array aP).toList (a.toList.take (a.size-1)++b.toList.take b.size):=by
  have e1:a.toList.take (a.size-1+1)=a.toList:=bN (by simp;lia)
  have e2:b.toList.take b.size=b.toList:=bN (by simp)
  have i0:Iv (rl lt) (a.toList++b.toList) [] (a.toList.take (a.size-1+1)++b.toList.take b.size):=⟨by rw[e1,e2];exact dI _,gT,by simp⟩
  exact i0.popA sa hx0l λu hu=>hlst x0 hx0l u (du hu)
 have est:st=setG st (gallopOf st):=rfl
 by_cases ha1:(a.size-1==0)=true
 ·refine aQx ha1 ?_;have a0:a.size-1=0:=by simpa using ha1
  refine aG ?_;rw[est];refine finG _ _ _ _ ?_ iv0;rw[a0];exact sb.take _
 refine aQy ha1 ?_
 by_cases hb1:(b.size==1)=true
 ·refine aQx hb1 ?_;refine aG ?_;rw[est];exact finF _ _ _ _ (by simpa using hb1) iv0
 refine aQy hb1 ?_;have hb2:2<=b.size:=by
  have:b.size≠1:=by simpa using hb1
  lia
 have ha2:1<=a.size-1:=by
  have:a.size-1≠0:=by simpa using ha1
  lia
 refine az (iF ?_);refine az (dw (b9 (I:=λx c G=>∃ na nb out mg g,c=(none,na,nb,out,mg)/\G=setG st g/\1<=na/\na<=a.size/\(2<=nb/\nb<=b.size)/\Iv (rl lt) (a.toList++b.toList) out.toList (a.toList.take na++b.toList.take nb)/\x + 1<=out.size)
  (Q:=λc G=>∃r,c.fst=some r/\Q r G) ?_ ?_ ⟨_,_,#[x0],_,_,rfl,est,ha2,by lia,⟨hb2,Nat.le_refl _⟩,iv0,by simp⟩) ?_)
 ·intro x c G _ hx zq;refine hd λGq kq=>?_;obtain⟨na,nb,out,mg,g,rfl,rfl,hna,hla,hnb,iv,hsz⟩:=zq;refine kq ?_;dsimp only;refine az (dw (b9 (I:=λy c G=>∃ na' D B ac bc,c=(none,na',D,B,ac,bc)/\G=setG st g/\1<=na'/\na'<=a.size/\(2<=D/\D<=b.size)/\Iv (rl lt) (a.toList++b.toList) B.toList (a.toList.take na'++b.toList.take D)/\out.size + y<=B.size)
   (Q:=λc G=>G=setG st g/\((∃r,c.fst=some r/\Q r G)\/∃na' D B ac bc,c=(none,na',D,B,ac,bc)/\1<=na'/\na'<=a.size/\(2<=D/\D<=b.size)/\Iv (rl lt) (a.toList++b.toList) B.toList (a.toList.take na'++b.toList.take D)/\out.size+1<=B.size)) ?_ ?_ ⟨na,nb,out,0,0,rfl,rfl,hna,hla,hnb,iv,Nat.le_refl _⟩) ?_)
  ·intro y c G _ hy zq;refine hd λGq kq=>?_;obtain⟨na',D,B,ac,bc,rfl,rfl,hna',hla',hnb',iv',hsz'⟩:=zq;refine kq ?_;obtain⟨ma,rfl⟩:∃m,na'=m+1:=⟨na'-1,by lia⟩
   obtain⟨mb,rfl⟩:∃m,D=m+1:=⟨D-1,by lia⟩
   obtain⟨x1,hx1,U⟩:=aQc (a:=a) (i:=ma) (by lia)
   obtain⟨y1,hy1,O⟩:=aQc (a:=b) (i:=mb) (by lia)
   have px1:=pa x1 (am U);have py1:=pb y1 (am O);dsimp only;simp only[Nat.add_sub_cancel];refine az (aZe hy1 (az (aZe hx1 (az (cJ4 o hk py1 px1 ?_)))));dsimp only;cases e:lt y1 x1 with
   |true =>
    refine aQx rfl ?_;refine az (aZe hx1 ?_);have Z:Iv (rl lt) (a.toList++b.toList) (B.push x1).toList (a.toList.take ma++b.toList.take (mb+1)):=by
     rw[cC];exact iv'.popA sa U (bXn o pb sb px1 O (o.as _ _ py1 px1 e))
    have sp:(B.push x1).size=B.size+1:=dR ..
    by_cases c1:(ma==0)=true
    ·have m0:ma=0:=by simpa using c1
     refine aQx c1 ?_;refine aG ⟨rfl,.inl ⟨_,rfl,finG _ _ _ g ?_ Z⟩⟩;rw[m0];exact sb.take _
    ·refine aQy c1 ?_;have c1':ma≠0:=by simpa using c1
     by_cases c2:ac+1>=mg
     ·refine aQx c2 ?_;exact aG ⟨rfl,.inr ⟨_,_,_,_,_,rfl,by lia,by lia,hnb',Z,by lia⟩⟩
     ·refine aQy c2 ?_;exact aG ⟨_,_,_,_,_,rfl,rfl,by lia,by lia,hnb',Z,by lia⟩
   |false =>
    refine aQy (by simp) ?_
    refine az (aZe hy1 ?_);have Z:Iv (rl lt) (a.toList++b.toList) (B.push y1).toList (a.toList.take (ma+1)++b.toList.take mb):=by
     rw[cC];exact iv'.popB sb O (bXn o pa sa py1 U e)
    have sp:(B.push y1).size=B.size+1:=dR ..
    by_cases c1:(mb==1)=true
    ·refine aQx c1 ?_;exact aG ⟨rfl,.inl ⟨_,rfl,finF _ _ _ g (by simpa using c1) Z⟩⟩
    ·refine aQy c1 ?_;have c1':mb≠1:=by simpa using c1
     by_cases c2:bc+1>=mg
     ·refine aQx c2 ?_;exact aG ⟨rfl,.inr ⟨_,_,_,_,_,rfl,by lia,by lia,⟨by lia,by lia⟩,Z,by lia⟩⟩
     ·refine aQy c2 ?_;exact aG ⟨_,_,_,_,_,rfl,rfl,by lia,by lia,⟨by lia,by lia⟩,Z,by lia⟩
  ·intro c G zq;refine hd λGq kq=>?_;obtain⟨na',D,B,ac,bc,rfl,rfl,hna',hla',hnb',iv',hsz'⟩:=zq;refine kq ?_;exact⟨rfl,.inr ⟨_,_,_,_,_,rfl,hna',hla',hnb',iv',by lia⟩⟩
  ·rintro c G ⟨rfl,⟨r,hr,q⟩|⟨na1,nb1,out1,ac1,bc1,rfl,hna1,hla1,hnb1,iv1,hsz1⟩⟩
   ·obtain⟨c1,c2⟩:=c;dsimp only at hr;subst hr;exact aG ⟨r,rfl,q⟩
   ·dsimp only;refine az (iW (dG ⟨rfl,?_⟩));refine az (dw (b9 (I:=λy c G=>∃ na' D B mg' ac bc g',c=(none,na',D,B,mg',ac,bc)/\G=setG st g'/\1<=na'/\(na'<=a.size/\2<=D/\D<=b.size)/\Iv (rl lt) (a.toList++b.toList) B.toList (a.toList.take na'++b.toList.take D)/\out1.size<=B.size)
     (Q:=λc G=>(∃r,c.fst=some r/\Q r G)\/∃na' D B mg' ac bc g',c=(none,na',D,B,mg',ac,bc)/\G=setG st g'/\1<=na'/\(na'<=a.size/\2<=D/\D<=b.size)/\Iv (rl lt) (a.toList++b.toList) B.toList (a.toList.take na'++b.toList.take D)/\out1.size<=B.size) ?_ ?_ ⟨na1,nb1,out1,_,ac1,bc1,g,rfl,rfl,hna1,⟨hla1,hnb1⟩,iv1,Nat.le_refl _⟩) ?_)
    ·intro y c G _ hy zq;refine hd λGq kq=>?_;obtain⟨na',D,B,mg',ac,bc,g',rfl,rfl,hna',⟨hla',hnb'⟩,iv',hsz'⟩:=zq;refine kq ?_;dsimp only;obtain⟨y1,hy1,O⟩:=aQc (a:=b) (i:=D-1) (by lia)
     have py1:=pb y1 (am O);have fa:∀i,i<na'->a[0+i]?=some (a.toList.getD (0+i) (.none,.none))/\P (a.toList.getD (0+i) (.none,.none)):=λi hi=>by
      obtain⟨z,hz,J⟩:=aQc (a:=a) (i:=0+i) (by lia)
      rw[ai,J];exact⟨hz,pa z (am J)⟩
     have mono:∀i j,i<=j->j<na'->bv lt false y1 (a.toList.getD (0+j) (.none,.none))=true->bv lt false y1 (a.toList.getD (0+i) (.none,.none))=true:=λi j hij hj hb=>by
      obtain⟨z,hz,J⟩:=aQc (a:=a) (i:=0+i) (by lia)
      obtain⟨z',hz',hzl'⟩:=aQc (a:=a) (i:=0+j) (by lia)
      rw[ai,hzl'] at hb;rw[ai,J];have hb':lt y1 z'=false:=by simpa [bv] using hb
      show(!lt y1 z)=true;rcases Nat.eq_or_lt_of_le hij with rfl|hlt
      ·rw[J] at hzl';cases hzl';rw[hb'];rfl
      ·rw[o.tr z z' y1 (pa z (am J)) (pa z' (am hzl')) py1 (sa.at (by lia) J hzl') hb'];rfl
     clear kq
     revert mg'
     refine dXu (λ_=>rfl) λm2=>?_;refine az (cX (az (aZe hy1 (az (bZ2 o (f:=λi=>a.toList.getD (0+i) (.none,.none)) hk py1 fa mono (by lia) λk k1 k2 k3=>?_)))))
     dsimp only;have ahead:∀u∈a.toList.take k,lt y1 u=false:=λu hu=>by
      obtain⟨j,hj,e⟩:=aQo hu
      have:=k2 j hj
      rw[ai,Nat.zero_add,e] at this;have h1:(!lt y1 u)=true:=this;simpa using h1
     by_cases ck:na'-k>0
     ·refine aQx ck ?_;have iv3:Iv (rl lt) (a.toList++b.toList) (B++(a.extract k na').reverse).toList (a.toList.take k++b.toList.take D):=by
       rw[bS,fT,aZh];refine iv'.backA sa k1 λz hz u hu=>?_;obtain⟨j,hj,J⟩:=aZs hz;have hb:=k3 (k+j) (by lia) (by lia)
       rw[ai,Nat.zero_add,J] at hb;have h1:(!lt y1 z)=false:=hb;have pz:=pa z (am J)
       have:=bXn o pb sb pz O (o.as _ _ py1 pz (by simpa using h1))
       rw[show D-1+1=D by lia] at this
       exact this u hu
      have sz3:out1.size<=(B++(a.extract k na').reverse).size:=by rw[de];lia
      by_cases c3:(k==0)=true
      ·have k0:k=0:=by simpa using c3
       refine aQx c3 ?_;refine aG (.inl ⟨_,rfl,finG _ _ _ _ ?_ iv3⟩);rw[k0];exact sb.take _
      ·refine aQy c3 ?_;have c3':k≠0:=by simpa using c3
       refine t1 _ _ k D m2 (na'-k) bc m2 (λr c' q=>.inl ⟨r,rfl,q⟩) (λn1 n2 o' a1 b1 q1 q2 q3 q4=>⟨.inr ⟨_,_,_,_,_,_,_,rfl,rfl,q1,q2,q3,by lia⟩,⟨_,_,_,_,_,_,_,rfl,rfl,q1,q2,q3,by lia⟩⟩) (by lia) (by lia) hnb' iv3 λy hy u hu=>?_
       rw[O] at hy;cases hy;exact ahead u hu
     ·refine aQy ck ?_;have ek:k=na':=by lia
      refine t1 _ _ na' D m2 (na'-k) bc m2 (λr c' q=>.inl ⟨r,rfl,q⟩) (λn1 n2 o' a1 b1 q1 q2 q3 q4=>⟨.inr ⟨_,_,_,_,_,_,_,rfl,rfl,q1,q2,q3,by lia⟩,⟨_,_,_,_,_,_,_,rfl,rfl,q1,q2,q3,by lia⟩⟩) hna' hla' hnb' iv' λy hy u hu=>?_
      rw[O] at hy;cases hy;exact ahead u (by rw[ek];exact hu)
    ·intro c G zq;refine hd λGq kq=>?_;obtain⟨na',D,B,mg',ac,bc,g',rfl,rfl,hna',hl',iv',hsz'⟩:=zq;refine kq ?_;exact .inr ⟨_,_,_,_,_,_,_,rfl,rfl,hna',hl',iv',hsz'⟩
    ·rintro c G (⟨r,hr,q⟩|⟨na',D,B,mg',ac,bc,g',rfl,rfl,hna',hl',iv',hsz'⟩)
     ·obtain⟨c1,c2⟩:=c;dsimp only at hr;subst hr;exact aG ⟨r,rfl,q⟩
     ·dsimp only;exact az (cX (aG ⟨_,_,_,_,_,rfl,rfl,hna',hl'.1,hl'.2,iv',by lia⟩))
 ·intro c G zq;refine hd λGq kq=>?_;obtain⟨na,nb,out,mg,g,rfl,rfl,hna,hla,hnb,iv,hsz⟩:=zq;refine kq ?_;exfalso
  have:=iv.size
  rw[sz,bn] at this;lia
 ·rintro c G ⟨r,hr,q⟩;obtain⟨c1,c2⟩:=c;dsimp only at hr;subst hr;exact aG q
end
theorem fQa(i:Nat):mergeAt' i=(do
 let s <- get
 let (some (sa,na,pw),some (sb,nb,_)):=((bX s)[i]?,(bX s)[i+1]?)|fz "internal:list.sort.pending"
 set (fU s (((bX s).setIfInBounds i (sa,na+nb,pw)).eraseIdxIfInBounds (i+1)))
 let some k <- gal false (<- eU (aT s) sb) (aT s) sa na 0|return false
 let (sa,na):=(sa+k,na-k)
 if na==0 then return true
 let some nb <- gal true (<- eU (aT s) (sa+na-1)) (aT s) sb nb (nb-1)|return false
 if nb==0 then return true
 let x:=(aT s).extract sa sb
 let y:=(aT s).extract sb (sb+nb)
 let m <- if na<=nb then mLo x y else mHi x y
 modify λs=>cU s (m.toList.zipIdx.foldl (λa (p,j)=>a.setIfInBounds (sa+j) p) (aT s))
 return (fS (<- get)).isNone):=rfl
theorem eQt{M:Model}{A:bj}{E:ae->aj->Prop}{s:aj}{σ:Type}{st st':σ}{Q:PUnit->σ->Prop}(h:Q ⟨⟩ st'):wpS M A E s (set st':StateT σ Sem PUnit) Q st:=by
 unfold wpS;show aE M A (pure (PUnit.unit,st'):Sem (PUnit×σ)) _ E s;exact ad ⟨rfl,h⟩
theorem cQk(off:Nat):∀(M:List aP) (k:Nat) (xs:Array aP),off+k+M.length<=xs.size->((M.zipIdx k).foldl (λa pj=>a.setIfInBounds (off+pj.2) pj.1) xs).toList=xs.toList.take (off+k)++M++xs.toList.drop (off+k+M.length)
 |[],k,xs,h=>by simp
 |x::M,k,xs,h=>by
  rw[List.zipIdx_cons,j8,cQk off M (k+1) _ (by simp at h ⊢;lia)]
  simp only[iZ];rw[aK] at h ⊢;have hl:off+k<xs.toList.length:=by simp;lia
  rw[show off+(k+1)=off+k+1 by lia,List.take_set,List.drop_set_of_lt (by lia),List.set_eq_take_append_cons_drop]
  have j:(off+k)<(xs.toList.take (off+k+1)).length:=by rw[aM];lia
  rw[if_pos j,List.take_take,Nat.min_eq_left (by lia),bQ (by rw[aM];lia)]
  simp[bd,show off+k+1+M.length=off+k+(M.length+1) by lia]
section
variable{prog:au}{w:aN}{A:bj}{E:ae->aj->Prop}{s:aj}{κ:fw}{P:aP->Prop}{lt:aP->aP->Bool}
theorem fQb(o:Orc prog w A s κ P lt){st:cW}{i sa na pw sb nb pw':Nat}{L1 Aa Bb L2:List aP}{Q:Bool->cW->Prop}(hk:kindOf st=κ)(hf:fS st=none)(hp1:(bX st)[i]?=some (sa,na,pw))(hp2:(bX st)[i+1]?=some (sb,nb,pw'))
  (hsb:sb=sa+na) (hl:(aT st).toList=L1++(Aa++(Bb++L2))) (l1:L1.length=sa) (lA:Aa.length=na) (lB:Bb.length=nb) (na1:1<=na) (nb1:1<=nb) (PA:∀x∈Aa,P x) (PB:∀x∈Bb,P x) (sA:Sd lt Aa) (sB:Sd lt Bb)
  (h:∀C g xs,xs.toList=L1++(C++L2)->Sd lt C->C.Perm (Aa++Bb)->Q true (iV κ xs (((bX st).setIfInBounds i (sa,na+nb,pw)).eraseIdxIfInBounds (i+1)) g none)):wpS (aF prog w) A E s (mergeAt' i) Q st:=by
 have hsz:(aT st).size=sa+na+nb+L2.length:=by
  have:=congrArg d9 hl
  simp only[bn,ap] at this;lia
 have atA:∀j x,Aa[j]?=some x->(aT st)[sa+j]?=some x:=λj x q=>by
  have hjl:=(aB.mp q).1;rw[<- aW,hl,bY (by lia),l1,Nat.add_sub_cancel_left,db hjl];exact q
 have atB:∀j x,Bb[j]?=some x->(aT st)[sb+j]?=some x:=λj x q=>by
  have hjl:=(aB.mp q).1;rw[<- aW,hl,bY (by lia),l1,bY (by lia),lA,db (by lia)]
  rw[show sb+j-sa-na=j by lia];exact q
 have O:∀j,j<na->∃x,Aa[j]?=some x:=λj q=>⟨Aa[j],af (by lia)⟩
 have L:∀j,j<nb->∃x,Bb[j]?=some x:=λj q=>⟨Bb[j],af (by lia)⟩
 obtain⟨b0,hb0⟩:=L 0 nb1;have pb0:=PB b0 (am hb0);rw[fQa];refine az (iF ?_);rw[hp1,hp2];dsimp only;refine az (eQt ?_);have Z:kindOf (fU st (((bX st).setIfInBounds i (sa,na+nb,pw)).eraseIdxIfInBounds (i+1)))=κ:=hk;have est:∀g xs,cU (setG (fU st (((bX st).setIfInBounds i (sa,na+nb,pw)).eraseIdxIfInBounds (i+1))) g) xs=iV κ xs (((bX st).setIfInBounds i (sa,na+nb,pw)).eraseIdxIfInBounds (i+1)) g none:=λg xs=>by
  show iV (kindOf st) xs _ g (fS st)=_;rw[hk,hf]
 refine az (aZe (x:=b0) (by have:=atB 0 b0 hb0;rwa [Nat.add_zero] at this) (az (bZ2 o (f:=λj=>Aa.getD j (.none,.none)) Z pb0 (λj q=>?_) (λj j' hjj q hb=>?_) (by lia) λk k1 k2 k3=>?_)))
 ·obtain⟨x,D⟩:=O j q;rw[ai,D];exact⟨atA j x D,PA x (am D)⟩
 ·obtain⟨z,hz⟩:=O j (by lia)
  obtain⟨z',hz'⟩:=O j' q;rw[ai,hz'] at hb;rw[ai,hz];have hb':lt b0 z'=false:=by simpa [bv] using hb
  show(!lt b0 z)=true;rcases Nat.eq_or_lt_of_le hjj with rfl|hlt
  ·rw[hz] at hz';cases hz';rw[hb'];rfl
  ·rw[o.tr z z' b0 (PA z (am hz)) (PA z' (am hz')) pb0 (sA.at hlt hz hz') hb'];rfl
 have Y:∀u∈Aa.take k,∀v∈Bb,lt v u=false:=λu G v J=>by
  obtain⟨j,q,e⟩:=aQo G
  have:=k2 j q
  rw[ai,e] at this;have h1:(!lt b0 u)=true:=this;exact bXm o PB sB (i:=0) (PA u (am e)) hb0 (by simpa using h1) v J
 have upA:∀u∈Aa.drop k,lt u b0=false:=λu G=>by
  obtain⟨j,q,e⟩:=aQm G;have hjl:=(aB.mp e).1
  have:=k3 j q (by lia)
  rw[ai,e] at this;have h1:(!lt b0 u)=false:=this;exact o.as _ _ pb0 (PA u (am e)) (by simpa using h1)
 dsimp only;have whole:∀g,Sd lt (Aa++Bb)->Q true (setG (fU st (((bX st).setIfInBounds i (sa,na+nb,pw)).eraseIdxIfInBounds (i+1))) g):=λg hs=>by
  have:=h (Aa++Bb) g (aT st) (by rw[hl,bd]) hs (dI _)
  rw[<- est g (aT st)] at this;exact this
 by_cases c1:(na-k==0)=true
 ·rw[if_pos c1];have kn:k=na:=by
   have:na-k=0:=by simpa using c1
   lia
  refine aG (whole _ (bG.mpr ⟨sA,sB,λu G v J=>Y u ?_ v J⟩));rw[kn,<- lA,cz];exact G
 rw[if_neg c1];have c1':na-k≠0:=by simpa using c1
 obtain⟨al,hal⟩:=O (na-1) (by lia)
 have pal:=PA al (am hal);refine az (aZe (x:=al) (by have:=atA _ al hal;rwa [show sa+k+(na-k)-1=sa+(na-1) by lia]) (az (bZ2 o (f:=λj=>Bb.getD j (.none,.none)) Z pal (λj q=>?_) (λj j' hjj q hb=>?_) (by lia) λm m1 m2 m3=>?_)))
 ·obtain⟨x,D⟩:=L j q;rw[ai,D];exact⟨atB j x D,PB x (am D)⟩
 ·obtain⟨z,hz⟩:=L j (by lia)
  obtain⟨z',hz'⟩:=L j' q;rw[ai,hz'] at hb;rw[ai,hz];have hb':lt z' al=true:=hb;show lt z al=true;cases e:lt z al with
  |true=>rfl
  |false =>
   exfalso;have pz:=PB z (am hz);have pz':=PB z' (am hz');rcases Nat.eq_or_lt_of_le hjj with rfl|hlt
   ·rw[hz] at hz';cases hz';rw[e] at hb';cases hb'
   ·have:=o.tr al z z' pal pz pz' e (sB.at hlt hz hz')
    rw[hb'] at this;cases this
 have upB:∀v∈Bb.drop m,∀u∈Aa,lt v u=false:=λv J u G=>by
  obtain⟨j,q,e⟩:=aQm J;have hjl:=(aB.mp e).1
  have:=m3 j q (by lia)
  rw[ai,e] at this;have h1:lt v al=false:=this
  have:=bXn o PA sA (PB v (am e)) hal h1
  rw[show na-1+1=Aa.length by lia,cz] at this
  exact this u G
 have lowB:∀v∈Bb.take m,lt al v=false:=λv J=>by
  obtain⟨j,q,e⟩:=aQo J
  have:=m2 j q
  rw[ai,e] at this;exact o.as _ _ (PB v (am e)) pal this
 dsimp only
 by_cases c2:(m==0)=true
 ·rw[if_pos c2];have m0:m=0:=by simpa using c2
  refine aG (whole _ (bG.mpr ⟨sA,sB,λu G v J=>upB v ?_ u G⟩));rw[m0];exact J
 rw[if_neg c2];have c2':m≠0:=by simpa using c2
 have ex:((aT st).extract (sa+k) sb).toList=Aa.drop k:=by
  rw[aZh,hl,<- l1,f7,bQ (by lia),bP,Nat.add_sub_cancel_left,iq (by lia),eA (by rw[bm];lia)]
  exact bN (by rw[bm];lia)
 have ey:((aT st).extract sb (sb+m)).toList=Bb.take m:=by
  rw[aZh,hl,Nat.add_sub_cancel_left,f7,bQ (by lia),bP,f7,bQ (by lia),bP,show sb-L1.length-Aa.length=0 by lia,gO,eA (by lia)]
 have zx:((aT st).extract (sa+k) sb).size=na-k:=by rw[<- bn,ex,bm,lA]
 have zy:((aT st).extract sb (sb+m)).size=m:=by rw[<- bn,ey,aM];lia
 have fin:∀ (M:Array aP) g,Sd lt M.toList->M.toList.Perm (((aT st).extract (sa + k) sb).toList++((aT st).extract sb (sb + m)).toList)->wpS (aF prog w) A E s (do
   modify λs=>cU s (M.toList.zipIdx.foldl (λa U=>a.setIfInBounds (sa+k+U.2) U.1) (aT s))
   let z <- get
   pure (fS z).isNone) Q (setG (fU st (((bX st).setIfInBounds i (sa,na+nb,pw)).eraseIdxIfInBounds (i+1))) g):=λM g hs B=>by
  refine az (cX (az (iF (aG ?_))));rw[ex,ey] at B;have ml:=B.length_eq;rw[ap,bm,aM] at ml;have ll:=cQk (sa+k) M.toList 0 (aT st) (by lia)
  have hfn:(fS (cU (setG (fU st (((bX st).setIfInBounds i (sa,na+nb,pw)).eraseIdxIfInBounds (i+1))) g) (M.toList.zipIdx.foldl (λa U=>a.setIfInBounds (sa+k+U.2) U.1) (aT st)))).isNone=true:=by
   show(fS st).isNone=true;rw[hf];rfl
  have main:=h (Aa.take k++(M.toList++Bb.drop m)) g (M.toList.zipIdx.foldl (λa U=>a.setIfInBounds (sa+k+U.2) U.1) (aT st)) ?_ ?_ ?_
  ·rw[<- est g] at main;show Q _ _;have e0:(fS (cU (setG (fU st (((bX st).setIfInBounds i (sa,na+nb,pw)).eraseIdxIfInBounds (i+1))) g) (M.toList.zipIdx.foldl (λa U=>a.setIfInBounds (sa+k+U.2) U.1) (aT st)))).isNone=true:=hfn;exact(e0.symm▸main)
  ·rw[ll,hl];have t1:(L1++(Aa++(Bb++L2))).take (sa+k+0)=L1++Aa.take k:=by
    rw[<- l1,Nat.add_zero,List.take_append,bN (by lia),Nat.add_sub_cancel_left,eA (by lia)]
   have t2:(L1++(Aa++(Bb++L2))).drop (sa+k+0+M.toList.length)=Bb.drop m++L2:=by
    rw[f7,bQ (by lia),bP,f7,bQ (by lia),bP,show sa+k+0+M.toList.length-L1.length-Aa.length=m by lia,iq (by lia)]
   rw[t1,t2];simp only[bd]
  ·have sA':Sd lt (Aa.take k++Aa.drop k):=by rw[bJ];exact sA
   have sB':Sd lt (Bb.take m++Bb.drop m):=by rw[bJ];exact sB
   obtain⟨a1,_,a3⟩:=bG.mp sA';obtain⟨_,b2,b3⟩:=bG.mp sB';refine bG.mpr ⟨a1,bG.mpr ⟨hs,b2,λu G v J=>?_⟩,λu G v J=>?_⟩
   ·rcases aS.mp (B.mem_iff.mp G) with z|z
    ·exact upB v J u (en z)
    ·exact b3 u z v J
   ·rcases aS.mp J with z|z
    ·rcases aS.mp (B.mem_iff.mp z) with y|y
     ·exact a3 u G v y
     ·exact Y u G v (du y)
    ·exact Y u G v (en z)
  ·have e1:(Aa++Bb)=Aa.take k++(Aa.drop k++(Bb.take m++Bb.drop m)):=by rw[<- bd,bJ,bJ]
   rw[e1];refine dX _ ?_;rw[<- bd];exact eI _ B
 have pX:∀x∈((aT st).extract (sa+k) sb).toList,P x:=λx D=>PA x (en (by rw[ex] at D;exact D))
 have pY:∀x∈((aT st).extract sb (sb+m)).toList,P x:=λx D=>PB x (du (by rw[ey] at D;exact D))
 have hF:∀y,((aT st).extract sb (sb+m)).toList[0]?=some y->∀x∈((aT st).extract (sa+k) sb).toList,lt x y=false:=λy hy x D=>by
  rw[ey,gj (by lia),hb0] at hy
  cases hy;rw[ex] at D;exact upA x D
 have hL:∀z,((aT st).extract (sa+k) sb).toList[((aT st).extract (sa+k) sb).size-1]?=some z->∀y∈((aT st).extract sb (sb+m)).toList,lt z y=false:=λz hz y hy=>by
  rw[ex,zx,iL,show k+(na-k-1)=na-1 by lia,hal] at hz
  cases hz;rw[ey] at hy;exact lowB y hy
 have sX:Sd lt ((aT st).extract (sa+k) sb).toList:=by rw[ex];exact sA.drop k
 have sY:Sd lt ((aT st).extract sb (sb+m)).toList:=by rw[ey];exact sB.take m
 by_cases c3:na-k<=m
 ·rw[if_pos c3];exact az (fQ7 o Z pX pY sX sY (by lia) (by lia) hF hL λM g hs B=>fin M g hs B)
 ·rw[if_neg c3];exact az (fQ9 o Z pX pY sX sY (by lia) (by lia) hF hL λM g hs B=>fin M g hs B)
end
def at0(xs:Array aP)(i:Nat):aP:=(xs[i]?).getD (.none,.none)
theorem cJ6{xs ys:Array aP}{i j:Nat}(h:xs[i]?=ys[j]?):at0 xs i=at0 ys j:=by unfold at0;rw[h]
def Gd(lo:Nat)(a xs:Array aP):Prop:=xs.Perm a/\∀i,i<lo->xs[i]?=a[i]?
theorem Gd.size{lo:Nat}{a xs:Array aP}(h:Gd lo a xs):xs.size=a.size:=h.1.size_eq
def Up(lt:aP->aP->Bool)(xs:Array aP)(i j:Nat):Prop:=∀p q,i<=p->p<q->q<j->lt (at0 xs q) (at0 xs p)=false
def Dn(lt:aP->aP->Bool)(xs:Array aP)(i j:Nat):Prop:=∀p q,i<=p->p<q->q<j->lt (at0 xs p) (at0 xs q)=false
def Eqs(lt:aP->aP->Bool)(xs:Array aP)(i j:Nat):Prop:=∀p q,i<=p->p<j->i<=q->q<j->lt (at0 xs p) (at0 xs q)=false
theorem bQ5{xs:Array aP}{i j:Nat}(hj:j<=xs.size)(k:Nat):at0 (dU xs i j ((j-i)/2)) k=if i<=k/\k<j then at0 xs (i+j-1-k) else at0 xs k:=by
 have e:=getElem?_mirror_all (i:=i) hj k
 split at e
 ·next h=>rw[if_pos h];exact cJ6 e
 ·next h=>rw[if_neg h];exact cJ6 e
theorem Gd.rev{lo i j d:Nat}{a xs:Array aP}(h:Gd lo a xs)(hi:lo<=i)(hj:j<=xs.size)(hd:d=(j-i)/2):Gd lo a (dU xs i j d):=by
 subst hd;refine⟨(mirror_perm _ _ _ _).trans h.1,λk q=>?_⟩;rw[getElem?_mirror_all hj,if_neg (by lia)]
 exact h.2 k q
section
variable{prog:au}{w:aN}{A:bj}{E:ae->aj->Prop}{s:aj}{κ:fw}{P:aP->Prop}{lt:aP->aP->Bool}
theorem gd_P{lo:Nat}{a xs:Array aP}(h:Gd lo a xs)(PA:∀x∈a.toList,P x){i:Nat}(hi:i<a.size):xs[i]?=some (at0 xs i)/\P (at0 xs i):=by
 have j:i<xs.size:=by rw[h.size];exact hi
 have e:xs[i]?=some xs[i]:=getElem?_pos _ i j;have q:at0 xs i=xs[i]:=by unfold at0;rw[e];rfl
 rw[q];exact⟨e,PA _ ((cY.mp h.1).mem_iff.mp (by simp))⟩
theorem aZf(o:Orc prog w A s κ P lt){st:cW}{xs:Array aP}{lo i j:Nat}{Q:Option Bool->cW->Prop}(hk:kindOf st=κ)(PA:∀x∈(aT st).toList,P x)(g:Gd lo (aT st) xs)(hi:i<(aT st).size)(hj:j<(aT st).size)(h:Q (some (lt (at0 xs i) (at0 xs j))) (cU st xs)) :
  wpS (aF prog w) A E s (ltAt' i j) Q (cU st xs):=by
 rw[ltAt'_eq];refine az (iF ?_);obtain⟨B,q⟩:=gd_P g PA hi;obtain⟨z,p2⟩:=gd_P g PA hj;exact az (aZe B (az (aZe z (cJ4 o hk q p2 h))))
theorem irr(o:Orc prog w A s κ P lt){x:aP}(hx:P x):lt x x=false:=by
 cases e:lt x x with
 |false=>rfl
 |true=>exact absurd (e.symm.trans (o.as x x hx hx e)) (by decide)
variable{st:cW}{xs:Array aP}{lo:Nat}
theorem Up.more(o:Orc prog w A s κ P lt){i j:Nat}(hP:∀p,p<=j->P (at0 xs p))(h:Up lt xs i j)(hij:i<j)(e:lt (at0 xs j) (at0 xs (j-1))=false):Up lt xs i (j+1):=λp q h1 h2 B=>by
 rcases Nat.lt_or_ge q j with z|z
 ·exact h p q h1 h2 z
 ·have:q=j:=by lia
  subst this;rcases Nat.lt_or_ge p (q-1) with y|y
  ·exact o.tr _ _ _ (hP p (by lia)) (hP (q-1) (by lia)) (hP q (by lia)) (h p (q-1) h1 y (by lia)) e
  ·have:p=q-1:=by lia
   rw[this];exact e
theorem Dn.more(o:Orc prog w A s κ P lt){i j:Nat}(hP:∀p,p<=j->P (at0 xs p))(h:Dn lt xs i j)(hij:i<j)(e:lt (at0 xs (j-1)) (at0 xs j)=false):Dn lt xs i (j+1):=λp q h1 h2 B=>by
 rcases Nat.lt_or_ge q j with z|z
 ·exact h p q h1 h2 z
 ·have:q=j:=by lia
  subst this;rcases Nat.lt_or_ge p (q-1) with y|y
  ·exact o.tr _ _ _ (hP q (by lia)) (hP (q-1) (by lia)) (hP p (by lia)) e (h p (q-1) h1 y (by lia))
  ·have:p=q-1:=by lia
   rw[this];exact e
theorem Dn.rev{i j d:Nat}(h:Dn lt xs i j)(hj:j<=xs.size)(hd:d=(j-i)/2):Up lt (dU xs i j d) i j:=λp q h1 h2 z=>by
 subst hd;rw[bQ5 hj,bQ5 hj,if_pos ⟨by lia,by lia⟩,if_pos ⟨by lia,by lia⟩]
 exact h _ _ (by lia) (by lia) (by lia)
theorem Dn.eqs{i j c d:Nat}(h:Dn lt xs i j)(hc:i<=c)(he:Eqs lt xs c j)(hj:j<=xs.size)(hd:d=(j-c)/2):Dn lt (dU xs c j d) i j:=λp q h1 h2 z=>by
 subst hd;rw[bQ5 hj,bQ5 hj]
 by_cases a1:c<=p/\p<j
 ·rw[if_pos a1,if_pos ⟨by lia,by lia⟩]
  exact he _ _ (by lia) (by lia) (by lia) (by lia)
 ·rw[if_neg a1]
  by_cases a2:c<=q/\q<j
  ·rw[if_pos a2];exact h _ _ h1 (by lia) (by lia)
  ·rw[if_neg a2];exact h _ _ h1 h2 z
theorem fQc(o:Orc prog w A s κ P lt){nrem:Nat}{Q:Option Nat->cW->Prop}(hk:kindOf st=κ)(PA:∀x∈(aT st).toList,P x)(hn:1<=nrem)(hs:lo+nrem<=(aT st).size)
  (h:∀n xs,1<=n->n<=nrem->Gd lo (aT st) xs->Up lt xs lo (lo+n)->Q (some n) (cU st xs)):wpS (aF prog w) A E s (countRun' lo nrem) Q st:=by
 have G:∀ {xs},Gd lo (aT st) xs->∀ p,p < (aT st).size->P (at0 xs p):=λg p J=>(gd_P g PA J).2;rw[countRun'_eq];dsimp only;have est:st=cU st (aT st):=rfl;have g0:Gd lo (aT st) (aT st):=⟨ka _,λ_ _=>rfl⟩;refine az (dw (b9 (I:=λx c B=>B=cU st (aT st)/\c=(none,x)/\1<=x/\Up lt (aT st) lo (lo + x))
  (Q:=λc B=>B=cU st (aT st)/\∃n,c=(none,n)/\1<=n/\n<=nrem/\Up lt (aT st) lo (lo+n)/\(n<nrem->lt (at0 (aT st) (lo+n)) (at0 (aT st) (lo+n-1))=true)) ?_ ?_ ⟨est,rfl,Nat.le_refl _,λp q _ _ _=>by lia⟩) ?_)
 ·rintro x c B _ hx ⟨rfl,rfl,h1,D⟩;dsimp only;refine az (aZf o (i:=lo+x) (j:=lo+x-1) hk PA g0 (by lia) (by lia) ?_)
  dsimp only;cases e:lt (at0 (aT st) (lo+x)) (at0 (aT st) (lo+x-1)) with
  |true=>rw[if_pos rfl];exact aG ⟨rfl,x,rfl,h1,by lia,D,λ_=>e⟩
  |false=>rw[if_neg (by simp)];exact aG ⟨rfl,rfl,by lia,Up.more o (i:=lo) (j:=lo+x) (λp J=>G g0 p (by lia)) D (by lia) e⟩
 ·rintro c B ⟨rfl,rfl,h1,D⟩;refine⟨rfl,_,rfl,by lia,by lia,D,λz=>by lia⟩
 ·rintro c B ⟨rfl,n,rfl,O,L,D,hlt⟩;dsimp only
  by_cases c0:(n==nrem)=true
  ·rw[if_pos c0];exact aG (h n _ O L g0 D)
  rw[if_neg c0];have c0':n<nrem:=by
   have:n≠nrem:=by simpa using c0
   lia
  have hlt':=hlt c0';have pp:∀p,p<=lo+n->P (at0 (aT st) p):=λp J=>G g0 p (by lia)
  have hle:=o.as _ _ (pp _ (Nat.le_refl _)) (pp _ (by lia)) hlt'
  by_cases cn:n>1
  ·rw[if_pos cn];refine az (aZf o (i:=lo) (j:=lo+n-1) hk PA g0 (by lia) (by lia) ?_)
   dsimp only;cases e:lt (at0 (aT st) lo) (at0 (aT st) (lo+n-1)) with
   |true=>rw[if_pos rfl];exact aG (h n _ O L g0 D)
   |false =>
    rw[if_neg (by simp),dA]
    have down:∀p,lo<=p->p<lo+n->lt (at0 (aT st) p) (at0 (aT st) (lo+n-1))=false:=λp h1 h2=>by
     rcases Nat.eq_or_lt_of_le h1 with rfl|h1
     ·exact e
     ·exact o.tr _ _ _ (pp _ (by lia)) (pp _ (by lia)) (pp _ (by lia)) e (D lo p (Nat.le_refl _) h1 h2)
    have dn:Dn lt (aT st) lo (lo+n):=λp q h1 h2 h3=>by
     rcases Nat.eq_or_lt_of_le (show q<=lo+n-1 by lia) with z|z
     ·rw[z];exact down p h1 (by lia)
     ·exact o.tr _ _ _ (pp _ (by lia)) (pp _ (by lia)) (pp _ (by lia)) (D q (lo+n-1) (by lia) z (by lia)) (down p h1 (by lia))
    have eqs:Eqs lt (aT st) lo (lo+n):=λp q h1 h2 h3 h4=>by
     rcases Nat.lt_trichotomy p q with z|z|z
     ·exact dn p q h1 z h4
     ·subst z;exact irr o (pp _ (by lia))
     ·exact D q p h3 z h2
    have g2:Gd lo (aT st) (dU (aT st) lo (lo+n) ((lo+n-lo)/2)):=g0.rev (Nat.le_refl _) (by lia) rfl
    have hd:Dn lt (dU (aT st) lo (lo+n) ((lo+n-lo)/2)) lo (lo+(n+1)):=by
     refine Dn.more o (i:=lo) (j:=lo+n) (λp J=>G g2 p (by lia)) (dn.eqs (Nat.le_refl _) eqs (by lia) rfl) (by lia) ?_
     have rv:=bQ5 (xs:=aT st) (i:=lo) (j:=lo+n) (by lia)
     rw[rv,rv,if_pos ⟨by lia,by lia⟩,if_neg (by lia)]
     exact o.tr _ _ _ (pp _ (by lia)) (pp (lo+n-1) (by lia)) (pp _ (by lia)) hle (down _ (by lia) (by lia))
    have L:=c0';refine az (cX ?_);change wpS _ _ _ _ _ _ (cU st (dU (aT st) lo (lo+n) ((lo+n-lo)/2)))
    rename Gd lo (aT st) (dU (aT st) lo (lo+n) ((lo+n-lo)/2))=>g
    generalize dU (aT st) lo (lo + n) ((lo + n - lo) / 2)=xs at g hd ⊢;refine az (iW (dG ⟨rfl,?_⟩));refine az (dw (b9 (I:=λx c B=>∃ xs q,B=cU st xs/\c=(none,x,q)/\2<=x/\q + 1<=x/\Gd lo (aT st) xs/\Dn lt xs lo (lo + x)/\Eqs lt xs (lo + x - (q + 1)) (lo + x))
     (Q:=λc B=>∃ xs n q,B=cU st xs/\c=(none,n,q)/\1<=n/\n<=nrem/\q + 1<=n/\Gd lo (aT st) xs/\Dn lt xs lo (lo + n)/\Eqs lt xs (lo + n - (q + 1)) (lo + n)) ?_ ?_ ⟨xs,0,rfl,rfl,by lia,by lia,g,hd,λp q h1 h2 h3 h4=>by
      have:p=q:=by lia
      subst this;exact irr o (G g p (by lia))⟩) ?_)
    ·rintro x c B _ hx ⟨xs,q,rfl,rfl,x2,Z,g,hd,he⟩;have hxs:xs.size=(aT st).size:=g.size;dsimp only;refine az (aZf o (i:=lo+x) (j:=lo+x-1) hk PA g (by lia) (by lia) ?_)
     dsimp only;cases e:lt (at0 xs (lo+x)) (at0 xs (lo+x-1)) with
     |true =>
      rw[if_pos rfl];have e2:=o.as _ _ (G g _ (by lia)) (G g _ (by lia)) e
      have one:∀ys,Gd lo (aT st) ys->Eqs lt ys (lo+(x+1)-(0+1)) (lo+(x+1)):=λys g' p q h1 h2 h3 h4=>by
       have:p=q:=by lia
       subst this;exact irr o (G g' p (by lia))
      by_cases Y:q>0
      ·rw[if_pos Y,dA];have hd2:(lo+x-(lo+x-(q+1)))/2=(lo+x-(lo+x-(q+1)))/2:=rfl;have g2:Gd lo (aT st) (dU xs (lo+x-(q+1)) (lo+x) ((lo+x-(lo+x-(q+1)))/2)):=g.rev (by lia) (by lia) rfl
       have d2:Dn lt (dU xs (lo+x-(q+1)) (lo+x) ((lo+x-(lo+x-(q+1)))/2)) lo (lo+x):=hd.eqs (by lia) he (by lia) rfl
       refine az (cX (aG ⟨_,0,rfl,rfl,by lia,by lia,g2,Dn.more o (i:=lo) (j:=lo+x) (λp J=>G g2 p (by lia)) d2 (by lia) ?_,one _ g2⟩))
       have rv:=bQ5 (xs:=xs) (i:=lo+x-(q+1)) (j:=lo+x) (by lia)
       rw[rv,rv,if_pos ⟨by lia,by lia⟩,if_neg (by lia)]
       exact o.tr (at0 xs (lo+x)) (at0 xs (lo+x-1)) _ (G g _ (by lia)) (G g _ (by lia)) (G g _ (by lia)) e2 (he _ _ (by lia) (by lia) (by lia) (by lia))
      ·rw[if_neg Y];exact aG ⟨xs,0,rfl,rfl,by lia,by lia,g,Dn.more o (i:=lo) (j:=lo+x) (λp J=>G g p (by lia)) hd (by lia) e2,one _ g⟩
     |false =>
      rw[if_neg (by simp)]
      refine az (aZf o (i:=lo+x-1) (j:=lo+x) hk PA g (by lia) (by lia) ?_)
      dsimp only;cases e2:lt (at0 xs (lo+x-1)) (at0 xs (lo+x)) with
      |true=>rw[if_pos rfl];exact aG ⟨xs,x,q,rfl,rfl,by lia,by lia,Z,g,hd,he⟩
      |false =>
       rw[if_neg (by simp)]
       refine aG ⟨xs,q+1,rfl,rfl,by lia,by lia,g,Dn.more o (i:=lo) (j:=lo+x) (λp J=>G g p (by lia)) hd (by lia) e2,λp r h1 h2 h3 h4=>?_⟩
       have pp:∀p,p<=lo+x->P (at0 xs p):=λp J=>G g p (by lia)
       have low:∀p,lo+x-(q+1)<=p->p<lo+x->lt (at0 xs p) (at0 xs (lo+x))=false/\lt (at0 xs (lo+x)) (at0 xs p)=false:=λp a1 a2=>by
        have b1:=he p (lo+x-1) a1 a2 (by lia) (by lia)
        have b2:=he (lo+x-1) p (by lia) (by lia) a1 a2
        exact⟨o.tr _ _ _ (pp _ (by lia)) (pp _ (by lia)) (pp _ (by lia)) e2 b1,o.tr _ _ _ (pp _ (by lia)) (pp _ (by lia)) (pp _ (by lia)) b2 e⟩
       by_cases z1:p=lo+x
       ·by_cases z2:r=lo+x
        ·rw[z1,z2];exact irr o (pp _ (by lia))
        ·rw[z1];exact(low r (by lia) (by lia)).2
       ·by_cases z2:r=lo+x
        ·rw[z2];exact(low p (by lia) (by lia)).1
        ·exact he p r (by lia) (by lia) (by lia) (by lia)
    ·rintro c B ⟨xs,q,rfl,rfl,x2,Z,g,hd,he⟩;exact⟨xs,_,q,rfl,rfl,by lia,by lia,Z,g,by rwa [show max (n+1) nrem=nrem by lia] at hd ⊢,he⟩
    ·rintro c B ⟨xs,n,q,rfl,rfl,O,L,Z,g,hd,he⟩;have hxs:xs.size=(aT st).size:=g.size;dsimp only
     by_cases Y:q>0
     ·rw[if_pos Y,dA,dA];have g2:Gd lo (aT st) (dU xs (lo+n-(q+1)) (lo+n) ((lo+n-(lo+n-(q+1)))/2)):=g.rev (by lia) (by lia) rfl
      have d2:Dn lt (dU xs (lo+n-(q+1)) (lo+n) ((lo+n-(lo+n-(q+1)))/2)) lo (lo+n):=hd.eqs (by lia) he (by lia) rfl
      have s2:=g2.size;have g3:=g2.rev (i:=lo) (j:=lo+n) (Nat.le_refl _) (by lia) rfl
      have U:=d2.rev (i:=lo) (j:=lo+n) (by lia) rfl
      refine az (cX (az (cX ?_)));change wpS _ _ _ _ _ _ (cU st (dU (dU xs (lo + n - (q + 1)) (lo + n) ((lo + n - (lo + n - (q + 1))) / 2)) lo (lo + n) ((lo + n - lo) / 2)));generalize dU (dU xs (lo + n - (q + 1)) (lo + n) ((lo + n - (lo + n - (q + 1))) / 2)) lo (lo + n) ((lo + n - lo) / 2)=zs at g3 U ⊢;refine az (dw (b9 (I:=λx c B=>B=cU st zs/\c=(none,x)/\n<=x/\Up lt (zs) lo (lo + x))
       (Q:=λc B=>B=cU st zs/\∃n,c=(none,n)/\1<=n/\n<=nrem/\Up lt (zs) lo (lo+n)) ?_ ?_ ⟨rfl,rfl,Nat.le_refl _,U⟩) ?_)
      ·rintro x c B _ hx ⟨rfl,rfl,h1,D⟩;dsimp only;refine az (aZf o (i:=lo+x) (j:=lo+x-1) hk PA g3 (by lia) (by lia) ?_)
       dsimp only;cases e:lt (at0 (zs) (lo+x)) (at0 (zs) (lo+x-1)) with
       |true=>rw[if_pos rfl];exact aG ⟨rfl,x,rfl,by lia,by lia,D⟩
       |false=>rw[if_neg (by simp)];exact aG ⟨rfl,rfl,by lia,Up.more o (i:=lo) (j:=lo+x) (λp J=>G g3 p (by lia)) D (by lia) e⟩
      ·rintro c B ⟨rfl,rfl,h1,D⟩;exact⟨rfl,_,rfl,by lia,by lia,D⟩
      ·rintro c B ⟨rfl,n,rfl,O,L,D⟩;exact aG (h n (zs) O L g3 D)
     ·rw[if_neg Y,dA];have g3:=g.rev (i:=lo) (j:=lo+n) (Nat.le_refl _) (by lia) rfl
      have U:=hd.rev (i:=lo) (j:=lo+n) (by lia) rfl
      refine az (cX ?_);change wpS _ _ _ _ _ _ (cU st (dU xs lo (lo + n) ((lo + n - lo) / 2)));generalize dU xs lo (lo + n) ((lo + n - lo) / 2)=zs at g3 U ⊢;refine az (dw (b9 (I:=λx c B=>B=cU st zs/\c=(none,x)/\n<=x/\Up lt (zs) lo (lo + x))
       (Q:=λc B=>B=cU st zs/\∃n,c=(none,n)/\1<=n/\n<=nrem/\Up lt (zs) lo (lo+n)) ?_ ?_ ⟨rfl,rfl,Nat.le_refl _,U⟩) ?_)
      ·rintro x c B _ hx ⟨rfl,rfl,h1,D⟩;dsimp only;refine az (aZf o (i:=lo+x) (j:=lo+x-1) hk PA g3 (by lia) (by lia) ?_)
       dsimp only;cases e:lt (at0 (zs) (lo+x)) (at0 (zs) (lo+x-1)) with
       |true=>rw[if_pos rfl];exact aG ⟨rfl,x,rfl,by lia,by lia,D⟩
       |false=>rw[if_neg (by simp)];exact aG ⟨rfl,rfl,by lia,Up.more o (i:=lo) (j:=lo+x) (λp J=>G g3 p (by lia)) D (by lia) e⟩
      ·rintro c B ⟨rfl,rfl,h1,D⟩;exact⟨rfl,_,rfl,by lia,by lia,D⟩
      ·rintro c B ⟨rfl,n,rfl,O,L,D⟩;exact aG (h n (zs) O L g3 D)
  ·rw[if_neg cn];have e1:n=1:=by lia
   subst e1;have hd:Dn lt (aT st) lo (lo+(1+1)):=λp q h1 h2 h3=>by
    have ep:p=lo:=by lia
    have eq:q=lo+1:=by lia
    rw[ep,eq];exact hle
   have L:=c0';have g:=g0;refine az (iW (dG ⟨rfl,?_⟩));refine az (dw (b9 (I:=λx c B=>∃ xs q,B=cU st xs/\c=(none,x,q)/\2<=x/\q + 1<=x/\Gd lo (aT st) xs/\Dn lt xs lo (lo + x)/\Eqs lt xs (lo + x - (q + 1)) (lo + x))
    (Q:=λc B=>∃ xs n q,B=cU st xs/\c=(none,n,q)/\1<=n/\n<=nrem/\q + 1<=n/\Gd lo (aT st) xs/\Dn lt xs lo (lo + n)/\Eqs lt xs (lo + n - (q + 1)) (lo + n)) ?_ ?_ ⟨aT st,0,rfl,rfl,by lia,by lia,g,hd,λp q h1 h2 h3 h4=>by
     have:p=q:=by lia
     subst this;exact irr o (G g p (by lia))⟩) ?_)
   ·rintro x c B _ hx ⟨xs,q,rfl,rfl,x2,Z,g,hd,he⟩;have hxs:xs.size=(aT st).size:=g.size;dsimp only;refine az (aZf o (i:=lo+x) (j:=lo+x-1) hk PA g (by lia) (by lia) ?_)
    dsimp only;cases e:lt (at0 xs (lo+x)) (at0 xs (lo+x-1)) with
    |true =>
     rw[if_pos rfl];have e2:=o.as _ _ (G g _ (by lia)) (G g _ (by lia)) e
     have one:∀ys,Gd lo (aT st) ys->Eqs lt ys (lo+(x+1)-(0+1)) (lo+(x+1)):=λys g' p q h1 h2 h3 h4=>by
      have:p=q:=by lia
      subst this;exact irr o (G g' p (by lia))
     by_cases Y:q>0
     ·rw[if_pos Y,dA];have hd2:(lo+x-(lo+x-(q+1)))/2=(lo+x-(lo+x-(q+1)))/2:=rfl;have g2:Gd lo (aT st) (dU xs (lo+x-(q+1)) (lo+x) ((lo+x-(lo+x-(q+1)))/2)):=g.rev (by lia) (by lia) rfl
      have d2:Dn lt (dU xs (lo+x-(q+1)) (lo+x) ((lo+x-(lo+x-(q+1)))/2)) lo (lo+x):=hd.eqs (by lia) he (by lia) rfl
      refine az (cX (aG ⟨_,0,rfl,rfl,by lia,by lia,g2,Dn.more o (i:=lo) (j:=lo+x) (λp J=>G g2 p (by lia)) d2 (by lia) ?_,one _ g2⟩))
      have rv:=bQ5 (xs:=xs) (i:=lo+x-(q+1)) (j:=lo+x) (by lia)
      rw[rv,rv,if_pos ⟨by lia,by lia⟩,if_neg (by lia)]
      exact o.tr (at0 xs (lo+x)) (at0 xs (lo+x-1)) _ (G g _ (by lia)) (G g _ (by lia)) (G g _ (by lia)) e2 (he _ _ (by lia) (by lia) (by lia) (by lia))
     ·rw[if_neg Y];exact aG ⟨xs,0,rfl,rfl,by lia,by lia,g,Dn.more o (i:=lo) (j:=lo+x) (λp J=>G g p (by lia)) hd (by lia) e2,one _ g⟩
    |false =>
     rw[if_neg (by simp)]
     refine az (aZf o (i:=lo+x-1) (j:=lo+x) hk PA g (by lia) (by lia) ?_)
     dsimp only;cases e2:lt (at0 xs (lo+x-1)) (at0 xs (lo+x)) with
     |true=>rw[if_pos rfl];exact aG ⟨xs,x,q,rfl,rfl,by lia,by lia,Z,g,hd,he⟩
     |false =>
      rw[if_neg (by simp)]
      refine aG ⟨xs,q+1,rfl,rfl,by lia,by lia,g,Dn.more o (i:=lo) (j:=lo+x) (λp J=>G g p (by lia)) hd (by lia) e2,λp r h1 h2 h3 h4=>?_⟩
      have pp:∀p,p<=lo+x->P (at0 xs p):=λp J=>G g p (by lia)
      have low:∀p,lo+x-(q+1)<=p->p<lo+x->lt (at0 xs p) (at0 xs (lo+x))=false/\lt (at0 xs (lo+x)) (at0 xs p)=false:=λp a1 a2=>by
       have b1:=he p (lo+x-1) a1 a2 (by lia) (by lia)
       have b2:=he (lo+x-1) p (by lia) (by lia) a1 a2
       exact⟨o.tr _ _ _ (pp _ (by lia)) (pp _ (by lia)) (pp _ (by lia)) e2 b1,o.tr _ _ _ (pp _ (by lia)) (pp _ (by lia)) (pp _ (by lia)) b2 e⟩
      by_cases z1:p=lo+x
      ·by_cases z2:r=lo+x
       ·rw[z1,z2];exact irr o (pp _ (by lia))
       ·rw[z1];exact(low r (by lia) (by lia)).2
      ·by_cases z2:r=lo+x
       ·rw[z2];exact(low p (by lia) (by lia)).1
       ·exact he p r (by lia) (by lia) (by lia) (by lia)
   ·rintro c B ⟨xs,q,rfl,rfl,x2,Z,g,hd,he⟩;exact⟨xs,_,q,rfl,rfl,by lia,by lia,Z,g,by rwa [show max (1+1) nrem=nrem by lia] at hd ⊢,he⟩
   ·rintro c B ⟨xs,n,q,rfl,rfl,O,L,Z,g,hd,he⟩;have hxs:xs.size=(aT st).size:=g.size;dsimp only
    by_cases Y:q>0
    ·rw[if_pos Y,dA,dA];have g2:Gd lo (aT st) (dU xs (lo+n-(q+1)) (lo+n) ((lo+n-(lo+n-(q+1)))/2)):=g.rev (by lia) (by lia) rfl
     have d2:Dn lt (dU xs (lo+n-(q+1)) (lo+n) ((lo+n-(lo+n-(q+1)))/2)) lo (lo+n):=hd.eqs (by lia) he (by lia) rfl
     have s2:=g2.size;have g3:=g2.rev (i:=lo) (j:=lo+n) (Nat.le_refl _) (by lia) rfl
     have U:=d2.rev (i:=lo) (j:=lo+n) (by lia) rfl
     refine az (cX (az (cX ?_)));change wpS _ _ _ _ _ _ (cU st (dU (dU xs (lo + n - (q + 1)) (lo + n) ((lo + n - (lo + n - (q + 1))) / 2)) lo (lo + n) ((lo + n - lo) / 2)));generalize dU (dU xs (lo + n - (q + 1)) (lo + n) ((lo + n - (lo + n - (q + 1))) / 2)) lo (lo + n) ((lo + n - lo) / 2)=zs at g3 U ⊢;refine az (dw (b9 (I:=λx c B=>B=cU st zs/\c=(none,x)/\n<=x/\Up lt (zs) lo (lo + x))
      (Q:=λc B=>B=cU st zs/\∃n,c=(none,n)/\1<=n/\n<=nrem/\Up lt (zs) lo (lo+n)) ?_ ?_ ⟨rfl,rfl,Nat.le_refl _,U⟩) ?_)
     ·rintro x c B _ hx ⟨rfl,rfl,h1,D⟩;dsimp only;refine az (aZf o (i:=lo+x) (j:=lo+x-1) hk PA g3 (by lia) (by lia) ?_)
      dsimp only;cases e:lt (at0 (zs) (lo+x)) (at0 (zs) (lo+x-1)) with
      |true=>rw[if_pos rfl];exact aG ⟨rfl,x,rfl,by lia,by lia,D⟩
      |false=>rw[if_neg (by simp)];exact aG ⟨rfl,rfl,by lia,Up.more o (i:=lo) (j:=lo+x) (λp J=>G g3 p (by lia)) D (by lia) e⟩
     ·rintro c B ⟨rfl,rfl,h1,D⟩;exact⟨rfl,_,rfl,by lia,by lia,D⟩
     ·rintro c B ⟨rfl,n,rfl,O,L,D⟩;exact aG (h n (zs) O L g3 D)
    ·rw[if_neg Y,dA];have g3:=g.rev (i:=lo) (j:=lo+n) (Nat.le_refl _) (by lia) rfl
     have U:=hd.rev (i:=lo) (j:=lo+n) (by lia) rfl
     refine az (cX ?_);change wpS _ _ _ _ _ _ (cU st (dU xs lo (lo + n) ((lo + n - lo) / 2)));generalize dU xs lo (lo + n) ((lo + n - lo) / 2)=zs at g3 U ⊢;refine az (dw (b9 (I:=λx c B=>B=cU st zs/\c=(none,x)/\n<=x/\Up lt (zs) lo (lo + x))
      (Q:=λc B=>B=cU st zs/\∃n,c=(none,n)/\1<=n/\n<=nrem/\Up lt (zs) lo (lo+n)) ?_ ?_ ⟨rfl,rfl,Nat.le_refl _,U⟩) ?_)
     ·rintro x c B _ hx ⟨rfl,rfl,h1,D⟩;dsimp only;refine az (aZf o (i:=lo+x) (j:=lo+x-1) hk PA g3 (by lia) (by lia) ?_)
      dsimp only;cases e:lt (at0 (zs) (lo+x)) (at0 (zs) (lo+x-1)) with
      |true=>rw[if_pos rfl];exact aG ⟨rfl,x,rfl,by lia,by lia,D⟩
      |false=>rw[if_neg (by simp)];exact aG ⟨rfl,rfl,by lia,Up.more o (i:=lo) (j:=lo+x) (λp J=>G g3 p (by lia)) D (by lia) e⟩
     ·rintro c B ⟨rfl,rfl,h1,D⟩;exact⟨rfl,_,rfl,by lia,by lia,D⟩
     ·rintro c B ⟨rfl,n,rfl,O,L,D⟩;exact aG (h n (zs) O L g3 D)
end
theorem bub_at{xs:Array aP}{src d:Nat}(hs:src<xs.size)(hd:d<=src)(k:Nat) :
  at0 (bubble xs src d) k=if k=src-d then at0 xs src else if src-d<k/\k<=src then at0 xs (k-1) else at0 xs k:=by
 have e:=getElem?_bubble hs d hd k
 by_cases h1:k=src-d
 ·rw[if_pos h1] at e ⊢;exact cJ6 e
 ·rw[if_neg h1] at e ⊢
  by_cases h2:src-d<k/\k<=src
  ·rw[if_pos h2] at e ⊢;exact cJ6 e
  ·rw[if_neg h2] at e ⊢;exact cJ6 e
section
variable{prog:au}{w:aN}{A:bj}{E:ae->aj->Prop}{s:aj}{κ:fw}{P:aP->Prop}{lt:aP->aP->Bool}{st:cW}{lo:Nat}
theorem fQd(o:Orc prog w A s κ P lt){n ok:Nat}{Q:Bool->cW->Prop}(hk:kindOf st=κ)(PA:∀x∈(aT st).toList,P x)(hs:lo+n<=(aT st).size)(hok:ok<=n)(hu:Up lt (aT st) lo (lo+ok))
  (h:∀xs,Gd lo (aT st) xs->Up lt xs lo (lo+n)->Q true (cU st xs)):wpS (aF prog w) A E s (binarySort' lo n ok) Q st:=by
 have pP:∀ {xs},Gd lo (aT st) xs->∀ p,p < (aT st).size->P (at0 xs p):=λg p hp=>(gd_P g PA hp).2;have g0:Gd lo (aT st) (aT st):=⟨ka _,λ_ _=>rfl⟩;rw[binarySort'_eq];refine az (dw (b9 (I:=λk c D=>∃ xs,D=cU st xs/\c=(none,())/\Gd lo (aT st) xs/\Up lt xs lo (lo + min k n))
  (Q:=λc D=>∃xs,D=cU st xs/\c=(none,())/\Gd lo (aT st) xs/\Up lt xs lo (lo+n)) ?step ?fin ?init) ?post)
 case post =>
  rintro c D ⟨xs,rfl,rfl,g,hu⟩;exact aG (h xs g hu)
 case init =>
  refine⟨aT st,rfl,rfl,g0,λp q h1 h2 h3=>?_⟩
  by_cases z:ok=0
  ·lia
  ·exact hu p q h1 h2 (by lia)
 case fin =>
  rintro c D ⟨xs,rfl,rfl,g,hu⟩;refine⟨xs,rfl,rfl,g,?_⟩;rwa [show min (max (max ok 1) n) n=n by lia] at hu
 case step =>
  rintro k c D hak hkn ⟨xs,rfl,rfl,g,hu⟩;rw[show min k n=k by lia] at hu
  have hxs:xs.size=(aT st).size:=g.size;have pp:∀p,p<lo+n->P (at0 xs p):=λp hp=>pP g p (by lia)
  dsimp only;refine az (dw (b9 (I:=λx c B=>B=cU st xs/\∃ l r,c=(none,l,r)/\l<=r/\r<=k/\r - l<=k - x /\
    (∀i,i<l->lt (at0 xs (lo+k)) (at0 xs (lo+i))=false)/\(∀i,r<=i->i<k->lt (at0 xs (lo+i)) (at0 xs (lo+k))=false))
   (Q:=λc B=>B=cU st xs/\∃ l r,c=(none,l,r)/\l<=k /\
    (∀i,i<l->lt (at0 xs (lo+k)) (at0 xs (lo+i))=false)/\(∀i,l<=i->i<k->lt (at0 xs (lo+i)) (at0 xs (lo+k))=false)) ?istep ?ifin ?iinit) ?ipost)
  case iinit=>exact⟨rfl,0,k,rfl,by lia,by lia,by lia,λi hi=>by lia,λi h1 h2=>by lia⟩
  case ifin =>
   rintro c B ⟨rfl,l,r,rfl,hlr,L,hm,G,J⟩
   have:l=r:=by lia
   subst this;exact⟨rfl,l,l,rfl,L,G,J⟩
  case istep =>
   rintro x c B _ hxk ⟨rfl,l,r,rfl,hlr,L,hm,G,J⟩;dsimp only
   by_cases Z:l>=r
   ·rw[if_pos Z]
    have:l=r:=by lia
    subst this;exact aG ⟨rfl,l,l,rfl,L,G,J⟩
   ·rw[if_neg Z];refine az (aZf o hk PA g (i:=lo+k) (j:=lo+(l+r)/2) (by lia) (by lia) ?_)
    dsimp only;cases e:lt (at0 xs (lo+k)) (at0 xs (lo+(l+r)/2)) with
    |true =>
     rw[if_pos rfl];refine aG ⟨rfl,l,(l+r)/2,rfl,by lia,by lia,by lia,G,λi h1 h2=>?_⟩
     have e2:=o.as _ _ (pp _ (by lia)) (pp _ (by lia)) e
     rcases Nat.eq_or_lt_of_le h1 with z|z
     ·rw[<- z];exact e2
     ·exact o.tr _ _ _ (pp _ (by lia)) (pp (lo+(l+r)/2) (by lia)) (pp _ (by lia)) e2 (hu _ _ (by lia) (by lia) (by lia))
    |false =>
     rw[if_neg (by simp)]
     refine aG ⟨rfl,(l+r)/2+1,r,rfl,by lia,by lia,by lia,λi h1=>?_,J⟩
     rcases Nat.eq_or_lt_of_le (show i<=(l+r)/2 by lia) with z|z
     ·rw[z];exact e
     ·exact o.tr _ _ _ (pp _ (by lia)) (pp (lo+(l+r)/2) (by lia)) (pp _ (by lia)) (hu _ _ (by lia) (by lia) (by lia)) e
  case ipost =>
   rintro c B ⟨rfl,l,r,rfl,hlk,G,J⟩;show wpS _ _ _ _ (do moveDown' (lo+k) (lo+l);pure (bM (none,()))) _ _
   rw[moveDown'_eq];have O:lo+k<xs.size:=by lia
   have ed:lo+k-(lo+l)=k-l:=by lia
   refine az (cX (aG ⟨bubble xs (lo+k) (lo+k-(lo+l)),rfl,rfl,⟨(bubble_perm _ _ _).trans g.1,λi hi=>?_⟩,?_⟩))
   ·rw[getElem?_bubble O _ (by lia),if_neg (by lia),if_neg (by lia)]
    exact g.2 i hi
   ·rw[show min (k+1) n=k+1 by lia]
    intro p q h1 h2 h3;rw[bub_at O (by lia),bub_at O (by lia),show lo+k-(lo+k-(lo+l))=lo+l by lia]
    have U:∀i,lo<=i->i<lo+l->lt (at0 xs (lo+k)) (at0 xs i)=false:=λi a b=>by
     have:=G (i-lo) (by lia)
     rwa [show lo+(i-lo)=i by lia] at this
    have Y:∀i,lo+l<=i->i<lo+k->lt (at0 xs i) (at0 xs (lo+k))=false:=λi a b=>by
     have:=J (i-lo) (by lia) (by lia)
     rwa [show lo+(i-lo)=i by lia] at this
    repeat' split
    all_goals first
     |(exfalso;lia)
     |exact U _ (by lia) (by lia)
     |exact Y _ (by lia) (by lia)
     |exact hu _ _ (by lia) (by lia) (by lia)
end
def offs:Nat->List (List aP)->List (Nat×Nat)
 |_,[]=>[]
 |k,s::ss=>(k,s.length)::offs (k+s.length) ss
theorem bZe:∀k ss,(offs k ss).length=ss.length
 |_,[]=>rfl
 |k,s::ss=>by simp[offs,bZe]
theorem aJn:∀k (s1 s2:List (List aP)),offs k (s1++s2)=offs k s1++offs (k+s1.flatten.length) s2
 |k,[],s2=>by simp[offs]
 |k,s::s1,s2=>by simp[offs,aJn,Nat.add_assoc]
def sl(x:Nat×Nat×Nat):Nat×Nat:=(x.1,x.2.1)
structure Pn(κ:fw)(P:aP->Prop)(lt:aP->aP->Bool)(a0:List aP)(st:cW)(segs:List (List aP))(rest:List aP):Prop where
 kind:kindOf st=κ
 fl:fS st=none
 arr:(aT st).toList=segs.flatten++rest
 perm:(aT st).toList.Perm a0
 sd:∀sg∈segs,Sd lt sg/\sg≠[]
 pd:(bX st).toList.map sl=offs 0 segs
section
variable{prog:au}{w:aN}{A:bj}{E:ae->aj->Prop}{s:aj}{κ:fw}{P:aP->Prop}{lt:aP->aP->Bool}{st:cW}{a0 rest:List aP}{segs:List (List aP)}
theorem Pn.psize(h:Pn κ P lt a0 st segs rest):(bX st).size=segs.length:=by
 have:=congrArg d9 h.pd
 rwa [ah,bZe,bn] at this
theorem Pn.size(h:Pn κ P lt a0 st segs rest):(aT st).size=a0.length:=by rw[<- bn];exact h.perm.length_eq
theorem Pn.room(h:Pn κ P lt a0 st segs rest):segs.flatten.length+rest.length=a0.length:=by rw[<- ap,<- h.arr];exact h.perm.length_eq
theorem dXw(o:Orc prog w A s κ P lt)(PA:∀x∈a0,P x)(h:Pn κ P lt a0 st segs rest){i:Nat}(hi:i+1<segs.length){Q:Bool->cW->Prop}
  (hq:∀st' segs',Pn κ P lt a0 st' segs' rest->segs'.length+1=segs.length->segs'.flatten.length=segs.flatten.length->Q true st'):wpS (aF prog w) A E s (mergeAt' i) Q st:=by
 obtain⟨S1,j,D,J,rfl,rfl⟩:∃S1 j D J,segs=S1++j::D::J/\S1.length=i:=by
  refine⟨segs.take i,segs[i],segs[i+1],segs.drop (i+2),?_,by rw[aM];lia⟩
  rw[<- cQ hi,<- cQ (by lia),bJ]
 have G:=h.pd;rw[aJn,Nat.zero_add] at G;obtain⟨p1,p2',Y,e2,e3⟩:=List.map_eq_append_iff.mp G;simp only[offs] at e3;obtain⟨x,Z,rfl,ex,e4⟩:=List.map_eq_cons_iff.mp e3;obtain⟨y,p2,rfl,ey,e5⟩:=List.map_eq_cons_iff.mp e4;have B:p1.length=S1.length:=by rw[<- ah (f:=sl),e2,bZe]
 have g1:(bX st)[S1.length]?=some (S1.flatten.length,j.length,x.2.2):=by
  rw[<- aW,Y,<- B,bY (Nat.le_refl _),Nat.sub_self,jK];obtain⟨x1,x2,x3⟩:=x;cases ex;rfl
 have g2:(bX st)[S1.length+1]?=some (S1.flatten.length+j.length,D.length,y.2.2):=by
  rw[<- aW,Y,<- B,bY (by lia),Nat.add_sub_cancel_left,jC,jK]
  obtain⟨y1,y2,y3⟩:=y;cases ey;rfl
 have O:=h.sd j (by simp)
 have sB:=h.sd D (by simp)
 have hl:(aT st).toList=S1.flatten++(j++(D++(J.flatten++rest))):=by rw[h.arr];simp
 have pm:∀x∈j++D,P x:=λx q=>PA x (h.perm.mem_iff.mp (by rw[hl];simp at q ⊢;grind))
 refine fQb o h.kind h.fl g1 g2 rfl hl rfl rfl rfl (dO.mpr O.2) (dO.mpr sB.2) (λx q=>pm x (be _ q)) (λx q=>pm x (a7 _ q)) O.1 sB.1 λC g xs q hC hp=>?_;have L:=hp.length_eq;rw[ap] at L;refine hq _ (S1++C::J) ⟨rfl,rfl,?_,?_,λsg U=>?_,?_⟩ (by simp only[ap,aK];lia) (by simp;lia)
 ·show xs.toList=_;rw[q];simp
 ·show xs.toList.Perm _;refine List.Perm.trans ?_ h.perm;rw[q,hl];refine dX _ ?_
  have:=eI (J.flatten++rest) hp
  rwa [bd j] at this
 ·rcases aS.mp U with z|z
  ·exact h.sd sg (by simp[z])
  ·rcases aD.mp z with rfl|z
   ·exact⟨hC,λe=>by
     have:=dO.mpr O.2
     rw[e] at L;simp at L;lia⟩
   ·exact h.sd sg (by simp[z])
 ·show(((bX st).setIfInBounds S1.length (S1.flatten.length,j.length+D.length,x.2.2)).eraseIdxIfInBounds (S1.length+1)).toList.map sl=_;rw[Array.toList_eraseIdxIfInBounds,iZ,Y,<- B,List.set_append_right _ _ (Nat.le_refl _),Nat.sub_self,List.set_cons_zero,List.eraseIdx_append_of_length_le (by lia),Nat.add_sub_cancel_left,List.eraseIdx_cons_succ,List.eraseIdx_cons_zero,aZ,aU,e2,e5,aJn]
  simp[offs,sl,L,Nat.add_assoc]
theorem Pn.next(h:Pn κ P lt a0 st segs rest){xs:Array aP}{n:Nat}(hn:1<=n)(hs:segs.flatten.length+n<=a0.length)(g:Gd segs.flatten.length (aT st) xs)(hu:Up lt xs segs.flatten.length (segs.flatten.length+n)) :
  ∃sg rest',sg.length=n/\Sd lt sg/\sg≠[]/\Pn κ P lt a0 (cU st xs) segs (sg++rest'):=by
 have J:xs.toList.length=a0.length:=by rw[bn,g.size,h.size]
 have B:xs.toList.take segs.flatten.length=segs.flatten:=by
  have:(aT st).toList.take segs.flatten.length=segs.flatten:=by rw[h.arr,eA (Nat.le_refl _),cz]
  rw[<- this];refine gN λi=>?_;rw[List.getElem?_take,List.getElem?_take,this]
  split
  ·next hi=>rw[aW,aW];exact g.2 i hi
  ·rfl
 refine⟨(xs.toList.drop segs.flatten.length).take n,(xs.toList.drop segs.flatten.length).drop n,by rw[aM,bm];lia,?_,λe=>?_,h.kind,h.fl,?_,?_,h.sd,h.pd⟩
 ·refine bO.mpr λi j hi D G=>?_;rw[aM,bm] at hi D
  have:=hu (segs.flatten.length+i) (segs.flatten.length+j) (by lia) (by lia) (by lia)
  have z:∀k,segs.flatten.length+k<xs.toList.length->∀q,((xs.toList.drop segs.flatten.length).take n)[k]'q=at0 xs (segs.flatten.length+k):=λk h1 q=>by
   rw[gP,gQ];unfold at0;rw[<- aW,af h1]
   rfl
  rw[z i (by lia),z j (by lia)]
  exact this
 ·have:=congrArg d9 e
  rw[aM,bm,cu] at this;lia
 ·show xs.toList=_;rw[bJ]
  conv=>lhs;rw[<- bJ segs.flatten.length xs.toList,B]
 ·exact(cY.mp g.1).trans h.perm
theorem Pn.push{sg rest':List aP}(h:Pn κ P lt a0 st segs (sg++rest'))(hs:Sd lt sg)(hne:sg≠[]){lo n:Nat}(hlo:segs.flatten.length=lo)(hn:sg.length=n):Pn κ P lt a0 (fU st ((bX st).push (lo,n,0))) (segs++[sg]) rest':=by
 subst hlo hn;refine⟨h.kind,h.fl,?_,h.perm,λx j=>?_,?_⟩
 ·show(aT st).toList=_;rw[h.arr];simp
 ·rcases aS.mp j with z|z
  ·exact h.sd x z
  ·rw[aH.mp z];exact⟨hs,hne⟩
 ·show((bX st).push _).toList.map sl=_;rw[cC,aZ,h.pd,aJn];simp[offs,sl]
theorem Pn.repow(h:Pn κ P lt a0 st segs rest)(i pw:Nat):Pn κ P lt a0 (fU st ((bX st).modify i λx=>(x.1,x.2.1,pw))) segs rest:=by
 refine⟨h.kind,h.fl,h.arr,h.perm,h.sd,?_⟩;show((bX st).modify i _).toList.map sl=_;rw[<- h.pd,Array.toList_modify];refine gN λj=>?_;rw[aL,aL,List.getElem?_modify]
 by_cases c:i=j
 ·simp only[c,if_true];cases (bX st).toList[j]? <;> rfl
 ·simp only[c,if_false];cases (bX st).toList[j]? <;> rfl
theorem cQl:∀(ss:List (List aP)),(∀sg∈ss,sg≠[])->ss.length<=ss.flatten.length
 |[],_=>Nat.le_refl _
 |s::ss,h=>by
  have:=cQl ss λx j=>h x (.tail _ j)
  have:=dO.mpr (h s (.head _))
  rw[gU,ap,aK];lia
end
section
variable{prog:au}{w:aN}{A:bj}{E:ae->aj->Prop}{s:aj}{κ:fw}{P:aP->Prop}{lt:aP->aP->Bool}{st:cW}{a0 rest:List aP}{segs:List (List aP)}
theorem eQu(o:Orc prog w A s κ P lt)(PA:∀x∈(aT st).toList,P x)(hk:kindOf st=κ)(hf:fS st=none)(hp:bX st=#[]){Q:Unit->cW->Prop}
  (h:∀st',(aT st').toList.Perm (aT st).toList->fS st'=none->Sd lt (aT st').toList->Q () st'):wpS (aF prog w) A E s sortRuns' Q st:=by
 have h0:Pn κ P lt (aT st).toList st [] (aT st).toList:=⟨hk,hf,rfl,dI _,λ_ J=>absurd J eP,by rw[hp];rfl⟩
 have pA:∀ {st' segs rest},Pn κ P lt (aT st).toList st' segs rest->∀ x∈(aT st').toList,P x:=λI x J=>PA x (I.perm.mem_iff.mp J);rw[sortRuns'_eq];refine az (iF ?_);dsimp only;have lz:(aT st).toList.length=(aT st).size:=bn;refine az (dw (b9
  (I:=λx c st'=>∃segs rest,c=(none,segs.flatten.length)/\Pn κ P lt (aT st).toList st' segs rest/\x<=segs.flatten.length)
  (Q:=λc st'=>∃segs,c=(none,segs.flatten.length)/\Pn κ P lt (aT st).toList st' segs []) ?step ?fin ⟨[],_,rfl,h0,Nat.le_refl _⟩) ?post)
 case fin =>
  rintro c st' ⟨segs,rest,rfl,I,J⟩;have r:=I.room;obtain rfl:rest=[]:=bZ (by lia)
  exact⟨segs,rfl,I⟩
 case post =>
  rintro c st' ⟨segs,rfl,I⟩;have r:=I.room;rw[cu] at r;have fl:=cQl segs λsg hsg=>(I.sd sg hsg).2;dsimp only;refine az (dw (b9 (I:=λx c st'=>∃ segs,c=(none,())/\Pn κ P lt (aT st).toList st' segs []/\(segs.length<=1\/segs.length + x<=(aT st).size))
   (Q:=λc st'=>∃segs,c=(none,())/\Pn κ P lt (aT st).toList st' segs []/\segs.length<=1) ?_ ?_ ⟨segs,rfl,I,by lia⟩) ?_)
  ·rintro x c st' _ J ⟨segs,rfl,I,hc⟩;refine az (iF ?_);have hps:=I.psize
   by_cases Z:(bX st').size<=1
   ·rw[if_pos Z];exact aG ⟨segs,rfl,I,by lia⟩
   ·rw[if_neg Z];have hi:∀b:Bool,(if b=true then (bX st').size-2-1 else (bX st').size-2)+1<segs.length:=λb=>by split <;> lia
    refine az (dXw o PA I (hi _) λD j Y l2 _=>?_);exact aG ⟨j,rfl,Y,by lia⟩
  ·rintro c st' ⟨segs,rfl,I,hc⟩;exact⟨segs,rfl,I,by lia⟩
  ·rintro c st' ⟨segs,rfl,I,hc⟩;refine aG (h st' I.perm I.fl ?_);rw[I.arr,cr]
   match segs,hc,I with
   |[],_,_=>exact gT
   |[sg],_,I=>rw[eJ];exact(I.sd sg (.head _)).1
 case step =>
  rintro x c st' _ J ⟨segs,rest,rfl,I,hxs⟩;have r:=I.room;have sz:=I.size;dsimp only
  by_cases Z:segs.flatten.length>=(aT st).size
  ·rw[if_pos Z];obtain rfl:rest=[]:=bZ (by lia)
   exact aG ⟨segs,rfl,I⟩
  rw[if_neg Z];refine az (fQc o I.kind (pA I) (lo:=segs.flatten.length) (by lia) (by lia) λn xs n1 n2 g hu=>?_)
  dsimp only
  by_cases c2:n<minRun' (aT st).size (aT st).size 0
  rw[if_pos c2];refine az (iW (dG ⟨rfl,?_⟩));refine az (fQd o (st:=cU st' xs) I.kind (λx J=>pA I x ((cY.mp g.1).mem_iff.mp J)) (by have:=g.size;show _<=xs.size;lia) (by lia) hu λys g2 hu2=>?_)
  rw[if_neg (by simp)]
  obtain⟨sg,q,ls,hs,G,Y⟩:=I.next (by lia) (by lia) ⟨g2.1.trans g.1,λi hi=>(g2.2 i hi).trans (g.2 i hi)⟩ hu2
  change Pn κ P lt _ (cU (cU st' xs) ys) _ _ at Y
  rotate_left
  rw[if_neg c2];obtain⟨sg,q,ls,hs,G,Y⟩:=I.next n1 (by lia) g hu
  all_goals
   have lp:=dO.mpr G;refine az (iF ?_)
   split
   next s1 n1' _ hb =>
    refine az (dw (b9 (I:=λ_ c B=>∃ j,c=(none,())/\Pn κ P lt (aT st).toList B j (sg++q)/\j.flatten.length=segs.flatten.length)
     (Q:=λc B=>∃j,c=(none,())/\Pn κ P lt (aT st).toList B j (sg++q)/\j.flatten.length=segs.flatten.length) ?_ (λ_ _ hh=>hh) ⟨segs,rfl,Y,rfl⟩) ?_)
    ·rintro y c D _ hy ⟨j,rfl,U,O⟩;refine az (iF ?_);have hps:=U.psize
     split
     next older he =>
      have hgt:(bX D).size>1:=by
       by_cases z:(bX D).size>1
       ·exact z
       ·rw[if_neg z] at he;cases he
      split
      ·exact aG ⟨j,rfl,U,O⟩
      ·refine az (dXw o PA U (by lia) λst4 L I4 _ l4=>?_)
       exact aG ⟨L,rfl,I4,l4.trans O⟩
     next=>exact aG ⟨j,rfl,U,O⟩
    ·rintro c D ⟨j,rfl,U,O⟩;dsimp only;refine az (cX (az (cX (aG ⟨j++[sg],q,?_,(U.repow _ _).push hs G O ls,?_⟩))))
     ·rw[eF,ap,eJ,ls,O]
     ·rw[eF,ap,eJ,O];lia
   next =>
    refine az (cX (aG ⟨segs++[sg],q,?_,Y.push hs G rfl ls,?_⟩))
    ·rw[eF,ap,eJ,ls]
    ·rw[eF,ap,eJ];lia
end
theorem aZz{α:Type}:∀{l:List α}{x y:α},(x,y)∈l.zip l->x=y/\x∈l
 |a::l,x,y,h=>by
  rw[d6] at h;rcases aD.mp h with e|h
  ·cases e;exact⟨rfl,.head _⟩
  ·exact⟨(aZz h).1,.tail _ (aZz h).2⟩
section
variable{prog:au}{w:aN}{A:bj}{E:ae->aj->Prop}{s:aj}
theorem dZh{α:Type}{R:α->α->Prop}:∀l:List α,l.length<2->l.Pairwise R
 |[],_=>.nil
 |[x],_=>bB _ _
theorem sort_any{a:Addr}{vs:List ae}{n:Nat}{P:iJ->aj->Prop}(lt:ae->ae->Bool)(hz:vs.length<=sizeLine)(ho:s.heap.get? a=some (b4 "list" vs.toArray n))
  (H:∀h2:bu,(∀b o,b≠a->s.heap.get? b=some o->h2.get? b=some o)->2<=vs.length->∀(Q:fw->aj->Prop),(∀κ,Orc prog w A {s with heap:=h2} κ (λx=>x.1∈vs) (λx y=>lt x.1 y.1)->Q κ {s with heap:=h2})->aE (aF prog w) A (keyKind' vs.toArray) Q E {s with heap:=h2})
  (h:∀xs:Array aP,xs.Perm (ik vs)->xs.toList.Pairwise (λx y=>lt y.1 x.1=false)->P (.done (.ret .none)) {s with heap:=h9 s.heap a vs (xs.map (·.2))}) :
  aE (aF prog w) A (cv.«list.sort» ⟨[.ref a],[]⟩) P E s:=by
 rw[list_sort_plain];have Z:a<s.heap.objs.size:=aA ho;refine aa (listItems_at ho rfl ?_);refine aa (listUpdate_at ho rfl ?_ (by rw[aq];exact hz) (Nat.zero_le _))
 obtain⟨D,z⟩:∃D,(s.heap.update a (bU λ_=>#[])).get? a=some (b4 "list" #[] D):=⟨_,fc ho (λ_=>#[])⟩;refine aa (seqEpoch_at z rfl ?_);refine aa (wpAny_newTuple ?_ (by show vs.length<=_;exact hz))
 refine aa (ju ?_ (Nat.zero_le _));refine bq ?_;have J:=cb s.heap a (bU λ_=>(#[]:Array ae));have q:(((s.heap.update a (bU λ_=>#[])).push (b4 "tuple" vs.toArray 0)).push (b4 "list" #[] 0)).get? a=some (b4 "list" #[] D):=ag _ (ag _ z);have kp:∀b o,b≠a->s.heap.get? b=some o->(((s.heap.update a (bU λ_=>#[])).push (b4 "tuple" vs.toArray 0)).push (b4 "list" #[] 0)).get? b=some o:=λb o U e=>ag _ (ag _ ((J.2 b U).trans e));show aE (aF prog w) A _ P E {s with heap:=((s.heap.update a (bU λ_=>#[])).push (b4 "tuple" vs.toArray 0)).push (b4 "list" #[] 0)}
 dsimp only;have B:(ik vs).size=vs.length:=pairsOf_size vs
 by_cases h2:vs.toArray.size<2
 ·rw[if_pos h2,if_pos h2];refine aa (ad ?_);rw[StateT.run_pure];refine aa (ad ?_);dsimp only;refine aa (seqEpoch_at q rfl ?_);refine aa (listUpdate_at q rfl ?_ (Nat.zero_le _) (by rw[ko];show(ik vs).size<=_;rw[B];exact Nat.le_succ_of_le hz))
  simp only[bne_self_eq_false,aV,if_false];refine ad (h (ik vs) (ka _) ?_)
  have:(ik vs).toList.length<2:=by rw[bn,B];simpa using h2
  exact dZh _ this
 ·rw[if_neg h2,if_neg h2];refine aa (H _ kp (by simpa using h2) _ fun κ o=>?_)
  refine aa (eB (eQu o (st:=iV κ (vs.toArray.zip vs.toArray) #[] 7 none) (Q:=λ_ j=>(aT j).toList.Perm (ik vs).toList/\fS j=none/\Sd (λx y:aP=>lt x.1 y.1) (aT j).toList)
   (λx L=>(aZz (x:=x.1) (y:=x.2) (by rw[<- i3];exact L)).2) rfl rfl rfl λj a1 a2 Y=>⟨a1,a2,Y⟩) ?_ λ_ _ e=>e)
  rintro⟨⟨⟩,j⟩ s' ⟨rfl,G,hf,O⟩;dsimp only;refine aa (seqEpoch_at q rfl ?_);refine aa (listUpdate_at q rfl ?_ (Nat.zero_le _) (by rw[ko,<- bn,G.length_eq,bn,B];exact Nat.le_succ_of_le hz))
  rw[hf];simp only[bne_self_eq_false,aV,if_false];exact ad (h _ (cY.mpr G) O)
theorem treeK{κ:KeyKind}(hO:κ.OneLt){a:Addr}{vs:List ae}{n:Nat}{P:iJ->aj->Prop}(ho:s.heap.get? a=some (b4 "list" vs.toArray n))
  (h0:KeysOf κ (ik vs)) (hkk:∀v₁ v₂ rest,vs=v₁::v₂::rest->keyKind' (v₁::v₂::rest).toArray=pure oneType') (hz:vs.length<=sizeLine)
  (h:∀st':cW,(aT st').Perm (ik vs)->SortedToK κ (aT st') (ik vs).size->P (.done (.ret .none)) {s with heap:=h9 s.heap a vs ((aT st').map (·.2))}) :
  aE (aF prog w) A (cv.«list.sort» ⟨[.ref a],[]⟩) P E s:=by
 have key:∀ v∈vs,∃ x,κ.keyOf v=some x:=λv hv=>h0 (v,v) (by
  rw[i3];obtain⟨i,hi,e⟩:=bh hv;exact List.mem_iff_getElem.mpr ⟨i,by simpa using hi,by simp[e]⟩)
 refine sort_any (λu v=>κ.blt ((κ.keyOf u).getD κ.dflt) ((κ.keyOf v).getD κ.dflt)) hz ho (λh2 kp O Q hq=>?_) λxs D hs=>h (iV oneType' xs #[] 7 none) D λi j L hj=>?_
 ·obtain⟨v₁,v₂,rest,rfl⟩:∃v₁ v₂ rest,vs=v₁::v₂::rest:=by
   match vs,O with
   |v₁::v₂::rest,_=>exact⟨v₁,v₂,rest,rfl⟩
  rw[hkk _ _ _ rfl];refine ad (hq _ ⟨λx y Q hx Z q=>?_,λx y _ _ e=>KeyOrd.klt_asymm e,λx y z _ _ _ e1 e2=>KeyOrd.kle_trans e1 e2⟩);obtain⟨p,D⟩:=key _ hx;obtain⟨Y,B⟩:=key _ Z;rw[keyLt'_oneType];refine hO _ _ _ _ _ _ _ p Y D B ?_;rw[D,B] at q;exact q
 ·show κ.kle (KK κ xs i) (KK κ xs j);rcases Nat.eq_or_lt_of_le L with rfl|G
  ·exact KeyOrd.kle_refl _
  ·have sz:=D.size_eq;have U:∀k (J:k<xs.size),KK κ xs k=(κ.keyOf (xs.toList[k]'(by simpa using J)).1).getD κ.dflt:=λk J=>by
    unfold KK;rw[<- aW,af (by simpa using J)]
   rw[U i (by lia),U j (by lia)]
   exact bO.mp hs i j (by simp;lia) (by simp;lia) G
def iv:ae->Int
 |.int n _=>n
 |_=>0
theorem treeI{a:Addr}{vs:List ae}{ns:List Int}{n:Nat}{P:iJ->aj->Prop}(ho:s.heap.get? a=some (b4 "list" vs.toArray n))(hI:iC vs ns)(hz:vs.length<=sizeLine)
  (h:∀(out:Array ae) (ns':List Int),iC out.toList ns'->ns'.Perm ns->ns'.Pairwise (·<=·)->P (.done (.ret .none)) {s with heap:=h9 s.heap a vs out}) :
  aE (aF prog w) A (cv.«list.sort» ⟨[.ref a],[]⟩) P E s:=by
 have key:∀ v∈vs,∃ x t,v=.int x t:=λv hv=>hI.intKeys (v,v) (by
  rw[i3];obtain⟨i,hi,e⟩:=bh hv;exact List.mem_iff_getElem.mpr ⟨i,by simpa using hi,by simp[e]⟩)
 refine sort_any (λu v=>decide (iv u<iv v)) hz ho (λh2 kp Y Q hq=>?_) λxs G hs=>?_
 ·obtain⟨D,B,rest,rfl⟩:∃D B rest,vs=D::B::rest:=by
   match vs,Y with
   |D::B::rest,_=>exact⟨D,B,rest,rfl⟩
  rw[keyKind_ints hI];refine ad (hq _ ⟨λx y Q hx hy q=>?_,λx y _ _ e=>by simp at e ⊢;lia,λx y z _ _ _ e1 e2=>by simp at e1 e2 ⊢;lia⟩)
  obtain⟨p,t,G⟩:=key _ hx;obtain⟨p',t',L⟩:=key _ hy;rw[keyLt'_oneType];rw[G,L] at q ⊢;exact oneLt_int q
 ·have sz:=G.size_eq;obtain⟨ns',h1,h2,h3⟩:=sorted_out hI G (λi j U hj=>by
   rcases Nat.eq_or_lt_of_le U with rfl|O
   ·exact ji _
   ·have Z:∀k (J:k<xs.size),K xs k=iv (xs.toList[k]'(by simpa using J)).1:=λk J=>by
     have hm:xs.toList[k]'(by simpa using J)∈(ik vs).toList:=(cY.mp G).mem_iff.mp (d0 _)
     obtain⟨p,t,e⟩:=hI.intKeys _ hm;unfold K;rw[<- aW,af (by simpa using J)]
     generalize xs.toList[k]'(by simpa using J)=z at e
     obtain⟨z1,z2⟩:=z;cases e
     rfl
    rw[Z i (by lia),Z j (by lia)]
    have:=bO.mp hs i j (by simp;lia) (by simp;lia) O
    have:=of_decide_eq_false this
    lia)
  exact h _ ns' h1 h2 h3
end
end SF
set_option maxHeartbeats 1000000
namespace HT
open PySem
theorem ltS_tot{a b:Str}(h:ltS a b=false)(hne:a≠b):ltS b a=true:=by
 unfold ltS at *
 refine decide_eq_true ?_;have h1:=of_decide_eq_false h;refine aR λh2=>hne ?_;have e:a.cps.toList=b.cps.toList:=List.le_antisymm (List.not_lt.mp h2) (List.not_lt.mp h1);cases a;cases b
 congr 1
 exact Array.toList_inj.mp e
theorem ltS_tr{a b c:Str}(h:ltS a b=true)(h':ltS b c=true):ltS a c=true:=decide_eq_true (List.lt_trans (of_decide_eq_true h) (of_decide_eq_true h'))
theorem ltS_ir(a:Str):ltS a a=false:=decide_eq_false (List.lt_irrefl _)
theorem ltS_as{a b:Str}(h:ltS a b=true):ltS b a=false:=decide_eq_false (List.lt_asymm (of_decide_eq_true h))
theorem lexS_tot:∀{a b:List Str},lexS a b=false->a≠b->lexS b a=true
 |[],[],_,h=>absurd rfl h
 |[],_::_,h,_=>by cases h
 |_::_,[],_,_=>rfl
 |x::xs,y::ys,h,j=>by
  rw[lexS_cons] at h ⊢
  by_cases e:x=y
  ·rw[if_pos e] at h;rw[if_pos e.symm];exact lexS_tot h λz=>j (by rw[e,z])
  ·rw[if_neg e] at h;rw[if_neg λz=>e z.symm];exact ltS_tot h e
theorem lexS_as:∀{a b:List Str},lexS a b=true->lexS b a=false
 |[],[],h=>by cases h
 |[],_::_,_=>rfl
 |_::_,[],h=>by cases h
 |x::xs,y::ys,h=>by
  rw[lexS_cons] at h ⊢
  by_cases e:x=y
  ·rw[if_pos e] at h;rw[if_pos e.symm];exact lexS_as h
  ·rw[if_neg e] at h;rw[if_neg (λz=>e z.symm)];exact ltS_as h
theorem lexS_tr:∀{a b c:List Str},lexS a b=true->lexS b c=true->lexS a c=true
 |[],[],_,h,_=>by cases h
 |[],_::_,[],_,h=>by cases h
 |[],_::_,_::_,_,_=>rfl
 |_::_,[],_,h,_=>by cases h
 |_::_,_::_,[],_,h=>by cases h
 |x::xs,y::ys,z::zs,h,h'=>by
  rw[lexS_cons] at h h' ⊢
  by_cases e:x=y
  ·subst e;rw[if_pos rfl] at h
   by_cases j:x=z
   ·rw[if_pos j] at h' ⊢;exact lexS_tr h h'
   ·rw[if_neg j] at h' ⊢;exact h'
  ·rw[if_neg e] at h
   by_cases j:y=z
   ·subst j;rw[if_neg e];exact h
   ·rw[if_neg j] at h';have hxz:=ltS_tr h h'
    have:x≠z:=by rintro rfl;rw[ltS_ir] at hxz;cases hxz
    rw[if_neg this];exact hxz
end HT
namespace KS
open PySem PySem.W PyProof.Rows
theorem paired_idx{α β:Type}{F:α->β->Prop}{l:List α}{m:List β}(p:bi F l m)(a:α)(b:β):∀(idx:List Nat),(∀i∈idx,i<l.length)->bi F (idx.map λi=>l.getD i a) (idx.map λi=>m.getD i b)
 |[],_=>.nil
 |i::idx,h=>by
  refine .cons ?_ (paired_idx p a b idx λj z=>h j (ao _ z));have hi:=h i ak;obtain⟨y,q,hf⟩:=L2.Paired.get' p (af hi);show F (l.getD i a) (m.getD i b);rw[ai,ai,q,af hi];exact hf
theorem TS.keep{h h':bu}{v:ae}{d:List Str}(t:TS h v d)(k:∀b o,h.get? b=some o->o.cls=.type "tuple"->h'.get? b=some o):TS h' v d:=by
 obtain⟨b,items,e,⟨o,q,j,r⟩,p⟩:=t;exact⟨b,items,e,⟨o,k b o q j,j,r⟩,p⟩
section
variable{prog:au}{w:aN}{A:bj}{E:ae->aj->Prop}{s:aj}
theorem TS.uniq{h:bu}{v:ae}{d d':List Str}(t:TS h v d)(t':TS h v d'):d=d':=by
 obtain⟨b,items,rfl,⟨o,D,U,n,hd⟩,p⟩:=t;obtain⟨Z,j,e,⟨o',ho',B,Y,hd'⟩,L⟩:=t';cases e;rw[D] at ho';cases ho';rw[hd] at hd';cases hd';clear hd D U B;have go:∀{l:List ae}{d d':List Str},HT.SAre l d->HT.SAre l d'->d=d':=by
  intro l d d' p
  induction p generalizing d' with
  |nil=>intro q;cases q;rfl
  |cons z _ O =>
   intro q;cases q with
   |cons G J =>
    obtain⟨t,e⟩:=z;obtain⟨t',e'⟩:=G;rw[e] at e';cases e';rw[O J]
 exact go p L
open Classical in
noncomputable def dec(h:bu)(v:ae):List Str:=if e:∃d,TS h v d then e.choose else []
theorem cJ7{h:bu}{v:ae}{d:List Str}(t:TS h v d):dec h v=d:=by
 unfold dec;have e:∃d,TS h v d:=⟨d,t⟩;rw[dif_pos e];exact e.choose_spec.uniq t
theorem eQv{a b c:List Str}(h1:HT.lexS b a=false)(h2:HT.lexS c b=false):HT.lexS c a=false:=by
 cases e:HT.lexS c a with
 |false=>rfl
 |true =>
  by_cases z:b=a
  ·subst z;rw[h2] at e;cases e
  ·have:=HT.lexS_tr e (HT.lexS_tot h1 z)
   rw[h2] at this;cases this
theorem dZi{α β:Type}{f:α->β}{l:List β}{k:List β}(h:l.Perm k):∀{m:List α},k=m.map f->∃m':List α,m'.Perm m/\l=m'.map f:=by
 induction h with
 |nil=>exact λe=>⟨_,dI _,e⟩
 |cons x _ L =>
  intro m e;cases m with
  |nil=>cases e
  |cons a m =>
   rw[aU] at e;injection e with z j
   obtain⟨m',p,q⟩:=L j;exact⟨a::m',p.cons a,by rw[aU,q,z]⟩
 |swap x y l =>
  intro m e;cases m with
  |nil=>cases e
  |cons a m =>
   cases m with
   |nil=>simp at e
   |cons b m =>
    rw[aU,aU] at e;injection e with z j
    injection j with j O
    exact⟨b::a::m,.swap _ _ _,by rw[aU,aU,z,j,O]⟩
 |trans p q D B =>
  intro m e;obtain⟨m1,J,z⟩:=B e;obtain⟨m2,G,j⟩:=D z;exact⟨m2,G.trans J,j⟩
theorem cJ8{α:Type}(l:List α)(d:α):((aI l.length).map λi=>l.getD i d)=l:=by
 apply jL
 ·simp
 ·intro i h1 h2;simp only[jM,List.getElem_range,ai];rw[af h2]
  rfl
theorem sort_tupsL{a:Addr}{vs:List ae}{ds:List (List Str)}{n:Nat}{P:iJ->aj->Prop}(hu:A.units<cB)(ho:s.heap.get? a=some (b4 "list" vs.toArray n))(hp:bi (TS s.heap) vs ds)(hz:vs.length<=sizeLine)
  (h:∀ (idx:List Nat) (h':bu) (c:Nat),idx.Perm (aI vs.length)->(idx.map λi=>ds.getD i []).Pairwise (λa b=>HT.lexS b a=false)->(idx.map λi=>ds.getD i []).Perm ds->h'.get? a=some (b4 "list" (idx.map λi=>vs.getD i ce).toArray c) ->
   (∀b o,b≠a->s.heap.get? b=some o->h'.get? b=some o)->P (.done (.ret .none)) {s with heap:=h'}) :
  aE (aF prog w) A (cv.«list.sort» ⟨[.ref a],[]⟩) P E s:=by
 have hl:vs.length=ds.length:=ca hp;have at_:∀i,i<vs.length->TS s.heap (vs.getD i ce) (ds.getD i []):=λk hk=>by
  obtain⟨d,hd,t⟩:=L2.Paired.get' hp (af hk);rw[ai,ai,hd,af hk];exact t
 have B:∀v∈vs,TS s.heap v (dec s.heap v):=λv hv=>by
  obtain⟨i,hi,e⟩:=bh hv
  have:=at_ i hi
  rw[ai,af hi] at this;have J:TS s.heap v (ds.getD i []):=by rw[<- e];exact this
  rw[cJ7 J];exact J
 refine SF.sort_any (λu v=>HT.lexS (dec s.heap u) (dec s.heap v)) hz ho (λh2 kp h2l Q hq=>?_) λxs U hs=>?_
 ·have kt:∀ b o,s.heap.get? b=some o->o.cls=.type "tuple"->h2.get? b=some o:=λb o e c=>kp b o (by
   rintro rfl;rw[ho] at e;have e':=aO e;rw[<- e'] at c;have c':dE "list"=dE "tuple":=c;injection c' with c''
   exact absurd c'' (by decide)) e
  have Y:bi (TS h2) vs ds:=L2.Paired.imp (λv d t=>t.keep kt) hp;refine eQs (s:={s with heap:=h2}) Y (by rintro rfl;simp at h2l) fun κ hκ=>hq κ ⟨λx y Q U hy q=>?_,λx y _ _ e=>HT.lexS_as e,λx y z _ _ _ D J=>eQv D J⟩
  have t1:=(B _ U).keep kt;have L:=(B _ hy).keep kt;rcases hκ with rfl|rfl|rfl
  ·exact cJ3 (s:={s with heap:=h2}) t1 L q
  ·exact cZr (s:={s with heap:=h2}) hu t1 L q
  ·exact fQ4 (s:={s with heap:=h2}) hu t1 L q
 ·have pl:xs.toList.Perm (ik vs).toList:=cY.mp U;obtain⟨idx,O,D⟩:=dZi (f:=λi=>(vs.getD i ce,vs.getD i ce)) (m:=aI vs.length) pl (by
   rw[i3]
   conv=>lhs;rw[<- cJ8 vs ce]
   rw[List.zip_map'])
  have G:∀i∈idx,i<vs.length:=λi hi=>ax.mp (O.mem_iff.mp hi);have eo:xs.map (·.2)=(idx.map λi=>vs.getD i ce).toArray:=by
   apply Array.toList_inj.mp;rw[Array.toList_map,D,bI]
   rfl
  rw[eo];rw[D,bH] at hs;have s2:=cb (((s.heap.update a (bU λ_=>(#[]:Array ae))).push (b4 "tuple" vs.toArray 0)).push (b4 "list" #[] 0)) a (bU λ_=>(idx.map λi=>vs.getD i ce).toArray);obtain⟨J,Z⟩:∃D,(s.heap.update a (bU λ_=>(#[]:Array ae))).get? a=some (b4 "list" #[] D):=⟨_,fc ho λ_=>#[]⟩;have sb:=cb s.heap a (bU λ_=>(#[]:Array ae));refine h idx _ _ O ?_ ?_ (fc (ag _ (ag _ Z)) λ_=>_) λb o hb e=>(s2.2 b hb).trans (ag _ (ag _ ((sb.2 b hb).trans e)))
  ·rw[bH];refine hs.imp_of_mem λ{i j} hi hj hij=>?_;have a1:=cJ7 (at_ i (G i hi));have a2:=cJ7 (at_ j (G j hj));rw[<- a1,<- a2];exact hij
  ·have:=O.map λi=>ds.getD i []
   rw[hl,cJ8] at this;exact this
theorem cJ9{l:List (List Str)}(nd:l.Nodup)(h:l.Pairwise λa b=>HT.lexS b a=false):l.Pairwise λa b=>HT.lexS a b=true:=kI (λ⟨h1,h2⟩=>HT.lexS_tot h1 λz=>h2 z.symm) (List.pairwise_and_iff.mpr ⟨h,nd⟩)
theorem sort_tups{a:Addr}{vs:List ae}{ds:List (List Str)}{n:Nat}{P:iJ->aj->Prop}(hu:A.units<cB)(ho:s.heap.get? a=some (b4 "list" vs.toArray n))(hp:bi (TS s.heap) vs ds)(nd:ds.Nodup)(hz:vs.length<=sizeLine)
  (h:∀ (idx:List Nat) (h':bu) (c:Nat),idx.Perm (aI vs.length)->(idx.map λi=>ds.getD i []).Pairwise (λa b=>HT.lexS a b=true)->(idx.map λi=>ds.getD i []).Perm ds->h'.get? a=some (b4 "list" (idx.map λi=>vs.getD i ce).toArray c) ->
   (∀b o,b≠a->s.heap.get? b=some o->h'.get? b=some o)->P (.done (.ret .none)) {s with heap:=h'}) :
  aE (aF prog w) A (cv.«list.sort» ⟨[.ref a],[]⟩) P E s:=sort_tupsL hu ho hp hz λidx h' c z q j g k=>h idx h' c z (cJ9 (j.nodup_iff.mpr nd) q) j g k
end
end KS
namespace ST
open PySem PySem.SetTable PySem.Spec PyProof.Rows
def restr{prog:au}{w:aN}{κ:Type}(D:SetKd prog w κ)(W:κ->ae->Prop):SetKd prog w κ where
 is:=λh k v=>D.is h k v/\W k v
 I:=λh a es ep t=>D.I h a es ep t/\∀e∈es.toList,∃k,D.is h k e.2/\W k e.2
 inj:=λa b=>D.inj a.1 b.1
 obj:=λx=>D.obj x.1
 fits:=λx=>D.fits x.1
 few:=λx p nd hp=>D.few x.1 (L2.Paired.mapP p λ_ _ q=>q.1) nd hp
 fresh:=λh=>⟨D.fresh h,λe he=>by simp at he⟩
 keepIs:=λx kp=>⟨D.keepIs x.1 kp,x.2⟩
 keepI:=λx e kp=>⟨D.keepI x.1 e kp,λe he=>let ⟨k,h1,h2⟩:=x.2 e he;⟨k,D.keepIs h1 kp,h2⟩⟩
 add:=λ{A E s a es ep t k x Q} hu hI hx hn h=>by
  refine D.add hu hI.1 hx.1 hn λh' tk es' ep' t' added q1 q2 q3 q4 q5=>?_;have kp:=aXi (D.obj hI.1) q2;have up:∀e∈es.toList,∃k,D.is h' k e.2/\W k e.2:=λe he=>let ⟨k,h1,h2⟩:=hI.2 e he;⟨k,D.keepIs h1 kp,h2⟩
  rcases q5 with⟨r1,r2,e,he,r3⟩|⟨r1,⟨hh,r2⟩,r3⟩
  ·obtain⟨k',z1,z2⟩:=hI.2 e he
   have:=D.inj r3 z1
   subst this;exact h h' tk es' ep' t' added ⟨q1,by rw[r2];exact up⟩ q2 q3 q4 (.inl ⟨r1,r2,e,he,r3,z2⟩)
  ·refine h h' tk es' ep' t' added ⟨q1,λe he=>?_⟩ q2 q3 q4 (.inr ⟨r1,⟨hh,r2⟩,λ⟨e,he,z⟩=>r3 ⟨e,he,z.1⟩⟩);rcases aD.mp (r2.mem_iff.mp he) with z|z
   ·subst z;exact⟨k,D.keepIs hx.1 kp,hx.2⟩
   ·exact up e z
end ST
namespace L2
open PySem PySem.Spec PyProof.Rows
def stO(p:Addr)(es:Array (Int×ae))(ep:Nat)(t:a8):HO:=.ext λh=>h.get? p=some (ST.setOb es ep t)
abbrev PV(K:Fg)(H:Hp):ae->V×List Str->Prop:=λv p=>RelV p.1 v/\dT K dS H p.1 p.2
def dSt(w:aN)(K:Fg):Dn (List (List Str)):=λH v ms=>∃p es ep t ps,v=.ref p/\H p=some (stO p es ep t)/\t.fits es.size=true/\t.led=ST.ledOf w/\(t.plain=true->es.size<=1)/\bi (PV K H) (es.toList.map (·.2)) ps/\ms=ps.map (·.2)
theorem Inv.drawn{X:Cx}{pins:List (Addr×Obj)}{σ:St}{H:Hp}{s:aj}(I:Inv X pins σ H s)(d:_):Inv X pins σ H {s with drawn:=d} :=
 ⟨I.ok,I.os,I.bare,I.base,I.loc,I.cell,I.free,I.freeC,I.pin,I.hok,I.len⟩
section
variable{X:Cx}
theorem eQw{K:Fg}{H:Hp}{h:bu}{P:au}{w:aN}:∀{es:List (Int×ae)}{ms:List (List Str)},bi (λ(e:Int×ae) k=>ST.TK P w h k e.2/\∃x,RelV x e.2/\dT K dS H x k) es ms->∃ps,bi (PV K H) (es.map (·.2)) ps/\ms=ps.map (·.2)
 |_,_,.nil=>⟨[],.nil,rfl⟩
 |_,_,.cons ⟨_,x,r,d⟩ q=>by
  obtain⟨ps,h1,h2⟩:=eQw q;exact⟨(x,_)::ps,.cons ⟨r,d⟩ h1,by rw[h2];rfl⟩
theorem dXx{P:au}{w:aN}{pins:List (Addr×Obj)}{σ:St}{H:Hp}{s:aj}(I:Inv X pins σ H s):∀{xs:List V}{us:List ae}{ds:List (List Str)},bi (dT X.K dS H) xs ds->Vals xs us->bi (λv k=>ST.TK P w s.heap k v/\∃x,RelV x v/\dT X.K dS H x k) us ds
 |_,_,_,.nil,.nil=>.nil
 |_,_,_,.cons p q,.cons r t=>by
  refine .cons ⟨?_,_,r,p⟩ (dXx I q t);obtain⟨b,ys,rfl,D,pp⟩:=p;cases r;obtain⟨B,z,j,_⟩:=I.tuple D;exact dZc (K:=X.K) pp z j
def fQe(w:aN)(K:Fg):List V->Hp->VK->Prop:=λxs H Q=>∃x ds,xs=[x]/\dL K (dT K dS) H x ds/\ds.length+1<=300/\∀p ms H',Same H H'->ms.Nodup->(∀k,k∈ms↔k∈ds)->dSt w K H' (.ref p) ms->Q (.ref p) H'
theorem cZs{K:Fg}{w:aN}(hu:X.A.units+8<cB)(hK:X.K=K:=by rfl)(hw:X.w=w:=by rfl)(hc:X.calm=true:=by rfl):CallR X (.type "set") (fQe w K):=by
 subst hK hw;intro pins s σ H xs us Q I r h;obtain⟨x,ds,rfl,⟨a,ys,rfl,Y,p⟩,Z,q⟩:=h;obtain⟨u,rfl,rx⟩:=aXx r;cases rx;obtain⟨U,J,pl,_⟩:=I.list Y;refine ST.call_setK (ST.restr (ST.tupKd X.prog X.w) λk v=>∃x,RelV x v/\dT X.K dS H x k) (I.ok.hd hc) hu pl.isList (dXx I p J) (by rw[aq,<- J.length,p.length];exact Z) λh' O ms M _ hk=>?_
 obtain⟨es,ep,t,B,j,L⟩:=M.ex;obtain⟨ps,h1,h2⟩:=eQw L;have D:H s.heap.objs.size=none:=I.hok.fresh (Nat.le_refl _);have G:Same H (upd H s.heap.objs.size (stO s.heap.objs.size es ep t)):=aQt D;refine⟨.ref s.heap.objs.size,_,I.laid (t':=O) (o:=stO s.heap.objs.size es ep t) (λb o e=>hk b o (aA e) e) (Nat.le_refl _) ?_,rfl,q _ _ _ G M.nd M.mem ⟨_,es,ep,t,ps,rfl,aQ8,(ST.tupKd X.prog X.w).fits B.1,j,λz=>?_,L2.Paired.imp (λ_ _ z=>⟨z.1,Mo.mo G z.2⟩) h1,h2⟩⟩
 ·refine⟨(ST.tupKd X.prog X.w).obj B.1,⟨_,(ST.tupKd X.prog X.w).obj B.1⟩,λg1 g2 g k=>k _ g⟩
 ·exact(ST.restr (ST.tupKd X.prog X.w) λk v=>∃x,RelV x v/\dT X.K dS H x k).few B L M.nd z
end
section
variable{X:Cx}
theorem fQf{K:Fg}{pins:List (Addr×Obj)}{σ:St}{H:Hp}{s:aj}(I:Inv X pins σ H s)(hK:X.K=K){h':bu}(k:∀b o,s.heap.get? b=some o->h'.get? b=some o):∀{vs:List ae}{ps:List (V×List Str)},bi (PV K H) vs ps->bi (KS.TS h') vs (ps.map (·.2))
 |_,_,.nil=>.nil
 |_,_,.cons ⟨r,d⟩ q=>by
  refine .cons ?_ (fQf I hK k q);obtain⟨b,xs,e,B,pp⟩:=d;rw[e] at r;cases r;rw[<- hK] at B;obtain⟨j,D,⟨o,G,z⟩,_⟩:=I.tuple B;exact⟨b,j.toArray,rfl,⟨o,k b o G,z⟩,aXj pp D⟩
theorem cQm:∀(ps:List (V×List Str)) (i:Nat),(ps.map (·.2)).getD i []=(ps.getD i (V.non,[])).2
 |[],i=>by simp
 |p::ps,0=>by simp
 |p::ps,i+1=>by simpa using cQm ps i
theorem bZf{K:Fg}{H:Hp}:∀{vs:List ae}{zs:List (V×List Str)},bi (PV K H) vs zs->Vals (zs.map (·.1)) vs/\bi (dT K dS H) (zs.map (·.1)) (zs.map (·.2))
 |_,_,.nil=>⟨.nil,.nil⟩
 |_,_,.cons ⟨r,d⟩ q=>⟨.cons r (bZf q).1,.cons d (bZf q).2⟩
theorem bJk{H:Hp}:∀{xs:List V}{us:List ae}{ds:List Str},bi (dS H) xs ds->Vals xs us->jZ us ds
 |_,_,_,.nil,.nil=>.nil
 |_,_,_,.cons p q,.cons r t=>by
  cases p;obtain⟨k,rfl⟩:=r;exact .cons _ k (bJk q t)
theorem bZg{H:Hp}:∀{us:List ae}{ds:List Str},jZ us ds->Vals (ds.map V.str) us/\bi (dS H) (ds.map V.str) ds
 |_,_,.nil=>⟨.nil,.nil⟩
 |_,_,.cons y t r=>⟨.cons ⟨t,rfl⟩ (bZg (H:=H) r).1,.cons rfl (bZg r).2⟩
theorem dXy:∀{l:List Str},sortedS l=true->l.Nodup->l.Pairwise λa b=>HT.ltS a b=true
 |[],_,_=>.nil
 |[x],_,_=>bB _ _
 |x::y::l,h,nd=>by
  have h':(!ltCps y.cps.toList x.cps.toList&&risingS y l)=true:=h;rw[aY] at h';have B:=dXy (l:=y::l) h'.2 (bE.mp nd).2;have j:HT.ltS x y=true:=by
   have e:HT.ltS y x=false:=by
    have:=h'.1
    rw[cN] at this;rw[ltCps_eq] at this;exact this
   exact HT.ltS_tot e λz=>(bE.mp nd).1 (z▸ak)
  refine aX.mpr ⟨λz q=>?_,B⟩;rcases aD.mp q with rfl|q
  ·exact j
  ·exact HT.ltS_tr j ((aX.mp B).1 z q)
end
end L2
set_option maxHeartbeats 4000000
namespace L2
open PySem PySem.Spec PyProof.Rows
def cutS(z:Str)(lo hi:Option Int):Str:=if ((cg lo hi 1 z.length).length==z.length)=true then z else ⟨((cg lo hi 1 z.length).filterMap (z.cps[·]?)).toArray⟩
def rSlS:V->Option Int->Option Int->Hp->VK->Prop:=λx lo hi H Q=>∃z,x=.str z/\z.length<=1000000/\Q (.str (cutS z lo hi)) H
theorem sl_str{X:Cx}:SlR X rSlS:=by
 intro pins s σ H x v vl Z lo hi sl Q I L U pl pu h;obtain⟨z,rfl,hz,q⟩:=h;obtain⟨t,rfl⟩:=L;refine⟨"str",_,PySem.F.slot_str_getitem.lookup,typeIs_str _ _ _,?_⟩;have go:∀(l u:Option (Int×Tok)),l.map (·.1)=lo->u.map (·.1)=hi->s.heap.IsSlice sl l u none->aE (aF X.prog X.w) X.A (jT (.str z t) (.ref sl)) (EP X pins σ Q) X.xe s:=λl u hl O Y=>by
  refine wpAny_getItem_str_slice Y rfl ?_;unfold sliceMade slicePicked;simp only[Option.map_none,jz,beq_self_eq_true,fH,hl,O];unfold cutS at q
  by_cases c:((cg lo hi 1 z.length).length==z.length)=true
  ·rw[if_pos c] at q ⊢;exact⟨.str z,H,I,⟨t,rfl⟩,q⟩
  ·rw[if_neg c] at q ⊢;refine⟨?_,.str _,H,I.tok _,⟨_,rfl⟩,q⟩;have h1:=PyProof.Rows.indices_len_le lo hi z.length;have h2:((cg lo hi 1 z.length).filterMap (z.cps[·]?)).length<=(cg lo hi 1 z.length).length:=List.length_filterMap_le _ _;show((cg lo hi 1 z.length).filterMap (z.cps[·]?)).toArray.size<=_;rw[aq,bK];lia
 obtain⟨o,B,D,hd⟩:=U;cases pl with
 |none =>
  cases pu with
  |none=>exact go none none rfl rfl ⟨o,B,D,hd⟩
  |int j G=>exact go none (some (j,G)) rfl rfl ⟨o,B,D,hd⟩
 |int i J =>
  cases pu with
  |none=>exact go (some (i,J)) none rfl rfl ⟨o,B,D,hd⟩
  |int j G=>exact go (some (i,J)) (some (j,G)) rfl rfl ⟨o,B,D,hd⟩
end L2
set_option maxHeartbeats 1000000
namespace L2
open PySem PySem.Spec PyProof.Rows
inductive D where
 |non|bl (b:Bool)|int (i:Int)|str (x:Str)|ty (n:String)|ref (a:Addr)|tup (xs:List D)|lst (xs:List D)
abbrev Am:=Addr->Prop
structure Keep(M:Am)(H:Hp)(M':Am)(H':Hp):Prop where
 st:∀a o,¬ M a->H a=some o->H' a=some o
 nm:∀a,¬ M a->H a≠none->¬ M' a
def Xo:HO->Prop
 |.ext _=>True
 |.ins _ _ _=>True
 |_=>False
inductive DO where
 |lst (xs:List D)|dk (kvs:List (Key×D))|dt (kvs:List (List Key×D))
 |tb (pos:Pos) (qual:Str)
 |ex (f:Am->Hp->Addr->Prop) (hk:∀M M' H H' a,Keep M H M' H'->H' a=H a->f M H a->f M' H' a) (hl:∀M H a,f M H a->∃g,H a=some g/\Xo g)
abbrev Sto:=Addr->Option DO
abbrev Gm:=List (Option D)
def supd(S:Sto)(a:Addr)(o:DO):Sto:=λb=>if b=a then some o else S b
theorem aQ6{S:Sto}{a:Addr}{o:DO}:supd S a o a=some o:=by unfold supd;rw[if_pos rfl]
theorem supd_ne{S:Sto}{a b:Addr}{o:DO}(h:b≠a):supd S a o b=S b:=by unfold supd;rw[if_neg h]
def TupAt(K:Fg)(M:Am)(H:Hp)(a:Addr)(xs:List V):Prop:=(¬ M a/\Rd H a (.tup xs))\/SqT K (λ_=>none) a xs
theorem TupAt.sq{K:Fg}{M:Am}{H:Hp}{a:Addr}{xs:List V}(h:TupAt K M H a xs):SqT K H a xs:=by
 rcases h with h|(h|⟨o,h⟩)|h
 ·exact .inl h.2
 ·cases h
 ·cases h
 ·exact .inr h
def LstAt(K:Fg)(M:Am)(H:Hp)(a:Addr)(xs:List V):Prop:=(¬ M a/\Rd H a (.lst xs))\/SqL K (λ_=>none) a xs
theorem LstAt.sq{K:Fg}{M:Am}{H:Hp}{a:Addr}{xs:List V}(h:LstAt K M H a xs):SqL K H a xs:=by
 rcases h with h|(h|⟨o,h⟩)|h
 ·exact .inl h.2
 ·cases h
 ·cases h
 ·exact .inr h
mutual
def RepV(K:Fg)(M:Am)(H:Hp):D->V->Prop
 |.non,v=>v=.non
 |.bl b,v=>v=.bl b
 |.int i,v=>v=.int i
 |.str x,v=>v=.str x
 |.ty n,v=>v=.ty n
 |.ref a,v=>v=.ref a
 |.tup ds,v=>∃a xs,v=.ref a/\TupAt K M H a xs/\RepL K M H ds xs
 |.lst ds,v=>∃a xs,v=.ref a/\LstAt K M H a xs/\RepL K M H ds xs
def RepL(K:Fg)(M:Am)(H:Hp):List D->List V->Prop
 |[],xs=>xs=[]
 |d::ds,xs=>∃v vs,xs=v::vs/\RepV K M H d v/\RepL K M H ds vs
end
theorem Rd.live{H:Hp}{a:Addr}{u:HO}(r:Rd H a u):H a≠none:=by
 rcases r with r|⟨o,r⟩ <;> rw[r] <;> exact λz=>by cases z
theorem Keep.rd{M M':Am}{H H':Hp}(k:Keep M H M' H'){a:Addr}{u:HO}(hm:¬ M a)(r:Rd H a u):Rd H' a u:=by
 rcases r with r|⟨o,r⟩
 ·exact .inl (k.st a _ hm r)
 ·exact .inr ⟨o,k.st a _ hm r⟩
theorem TupAt.keep{K:Fg}{M M':Am}{H H':Hp}{p:Addr}{us:List V}(t:TupAt K M H p us)(x:Keep M H M' H'):TupAt K M' H' p us:=by
 rcases t with⟨hm,r⟩|t
 ·exact .inl ⟨x.nm p hm r.live,x.rd hm r⟩
 ·exact .inr t
theorem LstAt.keep{K:Fg}{M M':Am}{H H':Hp}{p:Addr}{us:List V}(t:LstAt K M H p us)(x:Keep M H M' H'):LstAt K M' H' p us:=by
 rcases t with⟨hm,r⟩|t
 ·exact .inl ⟨x.nm p hm r.live,x.rd hm r⟩
 ·exact .inr t
mutual
theorem RepV.keep{K:Fg}{M M':Am}{H H':Hp}(k:Keep M H M' H'):∀{d:D}{v:V},RepV K M H d v->RepV K M' H' d v
 |.non,_,h=>h
 |.bl _,_,h=>h
 |.int _,_,h=>h
 |.str _,_,h=>h
 |.ty _,_,h=>h
 |.ref _,_,h=>h
 |.tup ds,v,h=>by
  unfold RepV at h ⊢;obtain⟨a,xs,e,t,l⟩:=h;exact⟨a,xs,e,t.keep k,RepL.keep k l⟩
 |.lst ds,v,h=>by
  unfold RepV at h ⊢;obtain⟨a,xs,e,t,l⟩:=h;exact⟨a,xs,e,t.keep k,RepL.keep k l⟩
theorem RepL.keep{K:Fg}{M M':Am}{H H':Hp}(k:Keep M H M' H'):∀{ds:List D}{xs:List V},RepL K M H ds xs->RepL K M' H' ds xs
 |[],_,h=>h
 |d::ds,xs,h=>by
  unfold RepL at h ⊢;obtain⟨v,vs,e,r,l⟩:=h;exact⟨v,vs,e,RepV.keep k r,RepL.keep k l⟩
end
section
variable{K:Fg}{M:Am}{H:Hp}
theorem RepL.length:∀{ds:List D}{xs:List V},RepL K M H ds xs->xs.length=ds.length
 |[],_,h=>by unfold RepL at h;rw[h];rfl
 |d::ds,xs,h=>by
  unfold RepL at h;obtain⟨v,vs,rfl,_,l⟩:=h;simp[RepL.length l]
theorem RepL.nil:RepL K M H [] []:=by unfold RepL;rfl
theorem RepL.cons{d:D}{ds:List D}{v:V}{vs:List V}(r:RepV K M H d v)(l:RepL K M H ds vs):RepL K M H (d::ds) (v::vs):=by unfold RepL;exact⟨v,vs,rfl,r,l⟩
theorem RepL.app:∀{ds es:List D}{xs ys:List V},RepL K M H ds xs->RepL K M H es ys->RepL K M H (ds++es) (xs++ys)
 |[],es,xs,ys,h,h'=>by unfold RepL at h;rw[h];exact h'
 |d::ds,es,xs,ys,h,h'=>by
  unfold RepL at h;obtain⟨v,vs,rfl,r,l⟩:=h;exact RepL.cons r (RepL.app l h')
theorem RepL.get:∀{ds:List D}{xs:List V}{i:Nat}{d:D},RepL K M H ds xs->ds[i]?=some d->∃v,xs[i]?=some v/\RepV K M H d v
 |[],_,_,_,_,e=>by simp at e
 |d::ds,xs,0,e,h,he=>by
  unfold RepL at h;obtain⟨v,vs,rfl,r,l⟩:=h;simp at he;subst he;exact⟨v,rfl,r⟩
 |d::ds,xs,i+1,e,h,he=>by
  unfold RepL at h;obtain⟨v,vs,rfl,r,l⟩:=h;obtain⟨w,h1,h2⟩:=RepL.get (i:=i) l (by simpa using he)
  exact⟨w,by simpa using h1,h2⟩
theorem RepL.get'{ds:List D}{xs:List V}{i:Nat}{v:V}(h:RepL K M H ds xs)(e:xs[i]?=some v):∃d,ds[i]?=some d/\RepV K M H d v:=by
 have hl:=h.length;have hi:i<xs.length:=by
  rcases Nat.lt_or_ge i xs.length with z|z
  ·exact z
  ·rw[cx z] at e;cases e
 have j:ds[i]?=some ds[i]:=af (by omega)
 obtain⟨w,h1,h2⟩:=h.get j;rw[e] at h1;cases h1;exact⟨_,j,h2⟩
theorem RepL.take:∀{ds:List D}{xs:List V}(n:Nat),RepL K M H ds xs->RepL K M H (ds.take n) (xs.take n)
 |_,_,0,_=>by simpa using RepL.nil
 |[],_,n+1,h=>by unfold RepL at h;subst h;simpa using RepL.nil
 |d::ds,xs,n+1,h=>by
  unfold RepL at h;obtain⟨v,vs,rfl,r,l⟩:=h;simpa using RepL.cons r (RepL.take n l)
theorem RepL.drop:∀{ds:List D}{xs:List V}(n:Nat),RepL K M H ds xs->RepL K M H (ds.drop n) (xs.drop n)
 |_,_,0,h=>by simpa using h
 |[],_,n+1,h=>by unfold RepL at h;subst h;simpa using RepL.nil
 |d::ds,xs,n+1,h=>by
  unfold RepL at h;obtain⟨v,vs,rfl,r,l⟩:=h;simpa using RepL.drop n l
theorem RepL.set{d:D}{v:V}(r:RepV K M H d v):∀{ds:List D}{xs:List V}(i:Nat),RepL K M H ds xs->RepL K M H (ds.set i d) (xs.set i v)
 |[],_,i,h=>by unfold RepL at h;subst h;simpa using RepL.nil
 |e::ds,xs,0,h=>by
  unfold RepL at h;obtain⟨w,vs,rfl,_,l⟩:=h;simpa using RepL.cons r l
 |e::ds,xs,i+1,h=>by
  unfold RepL at h;obtain⟨w,vs,rfl,q,l⟩:=h;simpa using RepL.cons q (RepL.set r i l)
theorem RepL.erase:∀{ds:List D}{xs:List V}(i:Nat),RepL K M H ds xs->RepL K M H (ds.eraseIdx i) (xs.eraseIdx i)
 |[],_,i,h=>by unfold RepL at h;subst h;simpa using RepL.nil
 |e::ds,xs,0,h=>by
  unfold RepL at h;obtain⟨w,vs,rfl,_,l⟩:=h;simpa using l
 |e::ds,xs,i+1,h=>by
  unfold RepL at h;obtain⟨w,vs,rfl,q,l⟩:=h;simpa using RepL.cons q (RepL.erase i l)
theorem RepL.one{d:D}{xs:List V}(h:RepL K M H [d] xs):∃v,xs=[v]/\RepV K M H d v:=by
 unfold RepL at h;obtain⟨v,vs,rfl,r,l⟩:=h;unfold RepL at l;subst l;exact⟨v,rfl,r⟩
theorem RepL.two{d e:D}{xs:List V}(h:RepL K M H [d,e] xs):∃v w,xs=[v,w]/\RepV K M H d v/\RepV K M H e w:=by
 unfold RepL at h;obtain⟨v,vs,rfl,r,l⟩:=h;obtain⟨w,rfl,j⟩:=l.one;exact⟨v,w,rfl,r,j⟩
end
def mt(S:Sto)(F:Am):Am:=λa=>S a≠none\/F a
abbrev cdO(c:Addr)(oc:Obj):HO:=.ext λh=>h.get? c=some oc
def TbOk(M:Am)(H:Hp)(pos:Pos)(qual:Str)(ps:Array ae):Prop:=TriplesOk ps.toList/\(codeAmong pos ps.toList=none \/
 ∃c oc,codeAmong pos ps.toList=some (.ref c)/\¬ M c/\H c=some (cdO c oc)/\∃vs t,oc.data=.fields vs/\vs[1]?=some (.str qual t))
theorem TbOk.keep{M M':Am}{H H':Hp}(k:Keep M H M' H'){pos:Pos}{qual:Str}{ps:Array ae}(h:TbOk M H pos qual ps):TbOk M' H' pos qual ps:=by
 obtain⟨h1,h2⟩:=h;refine⟨h1,h2.imp id λ⟨c,oc,q,m,j,r⟩=>⟨c,oc,q,k.nm c m (by rw[j];exact λz=>by cases z),k.st c _ m j,r⟩⟩
def RepO(K:Fg)(M:Am)(H:Hp)(a:Addr):DO->Prop
 |.lst ds=>∃xs,H a=some (.lst xs)/\RepL K M H ds xs
 |.dk kvs=>∃ks,H a=some (.dK ks)/\bi (λ(p:Key×V) (q:Key×D)=>p.1=q.1/\RepV K M H q.2 p.2) ks kvs
 |.dt kvs=>∃ks,H a=some (.dT ks)/\bi (λ(p:List Key×V) (q:List Key×D)=>p.1=q.1/\RepV K M H q.2 p.2) ks kvs
 |.tb pos qual=>∃ps,H a=some (.tbl ps)/\TbOk M H pos qual ps
 |.ex f _ _=>f M H a
theorem RepO.live{K:Fg}{M:Am}{H:Hp}{a:Addr}{o:DO}(h:RepO K M H a o):H a≠none:=by
 cases o with
 |ex f j hl=>obtain⟨g,e,_⟩:=hl _ _ _ h;rw[e];exact λz=>by cases z
 |_=>obtain⟨xs,e,_⟩:=h;rw[e];exact λz=>by cases z
theorem RepO.keep{K:Fg}{M M':Am}{H H':Hp}(k:Keep M H M' H'){a:Addr}{o:DO}(e:H' a=H a)(h:RepO K M H a o):RepO K M' H' a o:=by
 cases o with
 |lst ds=>obtain⟨xs,j,l⟩:=h;exact⟨xs,e.trans j,l.keep k⟩
 |dk q=>obtain⟨xs,j,l⟩:=h;exact⟨xs,e.trans j,Paired.imp (λ_ _ z=>⟨z.1,z.2.keep k⟩) l⟩
 |dt q=>obtain⟨xs,j,l⟩:=h;exact⟨xs,e.trans j,Paired.imp (λ_ _ z=>⟨z.1,z.2.keep k⟩) l⟩
 |tb pos qual=>obtain⟨xs,j,l⟩:=h;exact⟨xs,e.trans j,l.keep k⟩
 |ex f B hl=>exact B _ _ _ _ _ k e h
def Clt:HO->Prop
 |.lst _=>True
 |.ext _=>True
 |_=>False
structure Rp(K:Fg)(F:Am)(S:Sto)(H:Hp):Prop where
 obj:∀a o,S a=some o->RepO K (mt S F) H a o
 frm:∀a,F a->(∃u,H a=some u/\Clt u)/\S a=none
structure Ext(S:Sto)(H:Hp)(S':Sto)(H':Hp):Prop where
 keep:∀a o,S a=none->H a=some o->H' a=some o
 live:∀a,H a≠none->H' a≠none
 new:∀a,S' a≠none->S a≠none\/H a=none
theorem Ext.refl(S:Sto)(H:Hp):Ext S H S H:=⟨λ_ _ _ h=>h,λ_ h=>h,λ_ h=>.inl h⟩
theorem Ext.sn{S S':Sto}{H H':Hp}(x:Ext S H S' H'){a:Addr}(h:S a=none)(h':H a≠none):S' a=none:=by
 cases e:S' a with
 |none=>rfl
 |some o =>
  rcases x.new a (by rw[e];exact λz=>by cases z) with z|z
  ·exact absurd h z
  ·exact absurd z h'
theorem Ext.trans{S S1 S2:Sto}{H H1 H2:Hp}(x:Ext S H S1 H1)(y:Ext S1 H1 S2 H2):Ext S H S2 H2 :=
 ⟨λa o h h'=>y.keep a o (x.sn h (by rw[h'];exact λz=>by cases z)) (x.keep a o h h'),λa h=>y.live a (x.live a h),λa h=>by
  rcases y.new a h with z|z
  ·exact x.new a z
  ·refine .inr (aR λn=>x.live a n z)⟩
theorem Ext.same{S:Sto}{H H':Hp}(s:Same H H'):Ext S H S H' where
 keep:=λa o _ h=>s a o h
 live:=λa h=>by
  cases e:H a with
  |none=>exact absurd e h
  |some o =>
   rw[s a o e];exact λz=>by cases z
 new:=λ_ h=>.inl h
theorem Ext.kp{F:Am}{S S':Sto}{H H':Hp}(x:Ext S H S' H'):Keep (mt S F) H (mt S' F) H':=⟨λa o h e=>x.keep a o (aR λn=>h (.inl n)) e,λa h e=>λz=>by
 rcases z with z|z
 ·rcases x.new a z with y|y
  ·exact h (.inl y)
  ·exact e y
 ·exact h (.inr z)⟩
section
variable{K:Fg}{F:Am}{S S':Sto}{H H':Hp}
theorem RepV.ext{d:D}{v:V}(h:RepV K (mt S F) H d v)(x:Ext S H S' H'):RepV K (mt S' F) H' d v:=h.keep x.kp
theorem RepL.ext{ds:List D}{vs:List V}(h:RepL K (mt S F) H ds vs)(x:Ext S H S' H'):RepL K (mt S' F) H' ds vs:=h.keep x.kp
theorem Rp.same(r:Rp K F S H)(s:Same H H'):Rp K F S H' where
 obj:=λa o h=>by
  have q:=r.obj a o h;have e:H' a=H a:=by
   cases z:H a with
   |none=>exact absurd z q.live
   |some u=>exact s a u z
  exact q.keep (Ext.same s).kp e
 frm:=λa h=>by
  obtain⟨⟨zs,e,ct⟩,h2⟩:=r.frm a h;exact⟨⟨zs,s a _ e,ct⟩,h2⟩
theorem Ext.write{a:Addr}{o:DO}{u:HO}(h:S a≠none):Ext S H (supd S a o) (upd H a u) where
 keep:=λb q h1 h2=>by
  have ne:b≠a:=by rintro rfl;exact h h1
  rw[upd_ne ne];exact h2
 live:=λb j=>by
  by_cases e:b=a
  ·subst e;rw[aQ8];exact λz=>by cases z
  ·rw[upd_ne e];exact j
 new:=λb j=>by
  by_cases e:b=a
  ·subst e;exact .inl h
  ·rw[supd_ne e] at j;exact .inl j
theorem Rp.write{a:Addr}{o:DO}{u:HO}(r:Rp K F S H)(h:S a≠none)(q:RepO K (mt (supd S a o) F) (upd H a u) a o):Rp K F (supd S a o) (upd H a u) where
 obj:=λb j hb=>by
  by_cases e:b=a
  ·subst e;rw[aQ6] at hb;cases hb;exact q
  ·rw[supd_ne e] at hb;exact(r.obj b j hb).keep (Ext.write h).kp (upd_ne e)
 frm:=λb hb=>by
  have e:b≠a:=by rintro rfl;exact h (r.frm b hb).2
  rw[upd_ne e,supd_ne e];exact r.frm b hb
theorem Rp.sn(r:Rp K F S H){a:Addr}(h:H a=none):S a=none:=by
 cases e:S a with
 |none=>rfl
 |some o=>exact absurd h (r.obj a o e).live
theorem Ext.mk'{a:Addr}{o:DO}{u:HO}(h:H a=none):Ext S H (supd S a o) (upd H a u) where
 keep:=λb q h1 h2=>by
  have ne:b≠a:=by rintro rfl;rw[h] at h2;cases h2
  rw[upd_ne ne];exact h2
 live:=λb j=>by
  have ne:b≠a:=by rintro rfl;exact j h
  rw[upd_ne ne];exact j
 new:=λb j=>by
  by_cases e:b=a
  ·subst e;exact .inr h
  ·rw[supd_ne e] at j;exact .inl j
theorem Rp.mk'{a:Addr}{o:DO}{u:HO}(r:Rp K F S H)(h:H a=none)(q:RepO K (mt (supd S a o) F) (upd H a u) a o):Rp K F (supd S a o) (upd H a u) where
 obj:=λb j hb=>by
  by_cases e:b=a
  ·subst e;rw[aQ6] at hb;cases hb;exact q
  ·rw[supd_ne e] at hb;exact(r.obj b j hb).keep (Ext.mk' h).kp (upd_ne e)
 frm:=λb hb=>by
  have e:b≠a:=by
   rintro rfl;obtain⟨⟨zs,e,_⟩,_⟩:=r.frm b hb;rw[h] at e;cases e
  rw[upd_ne e,supd_ne e];exact r.frm b hb
theorem Ext.less{S':Sto}(h:∀ a o,S' a=some o->S a=some o):Ext S H S' H:=⟨λ_ _ _ e=>e,λ_ e=>e,λa e=>.inl λz=>by
 cases q:S' a with
 |none=>exact e q
 |some o=>rw[h a o q] at z;cases z⟩
theorem Rp.less{S':Sto}(r:Rp K F S H)(h:∀a o,S' a=some o->S a=some o):Rp K F S' H where
 obj:=λa o e=>(r.obj a o (h a o e)).keep (Ext.less h).kp rfl
 frm:=λa e=>⟨(r.frm a e).1,by
  cases q:S' a with
  |none=>rfl
  |some o=>have:=h a o q;rw[(r.frm a e).2] at this;cases this⟩
end
def look(g:Gm)(i:Nat)(k:D->Prop):Prop:=match i with
 |0=>match g with
  |some d::_=>k d
  |_=>False
 |n+1=>match g with
  |_::g=>look g n k
  |[]=>False
def RepG(K:Fg)(M:Am)(H:Hp):Gm->St->Prop
 |[],σ=>σ=[]
 |none::g,σ=>∃v τ,σ=v::τ/\RepG K M H g τ
 |some d::g,σ=>∃v τ,σ=some v::τ/\RepV K M H d v/\RepG K M H g τ
theorem RepG.keep{K:Fg}{M M':Am}{H H':Hp}(k:Keep M H M' H'):∀{g:Gm}{σ:St},RepG K M H g σ->RepG K M' H' g σ
 |[],_,h=>h
 |none::g,_,⟨v,τ,e,r⟩=>⟨v,τ,e,RepG.keep k r⟩
 |some d::g,_,⟨v,τ,e,q,r⟩=>⟨v,τ,e,q.keep k,RepG.keep k r⟩
theorem RepG.ext{K:Fg}{F:Am}{S S':Sto}{H H':Hp}{g:Gm}{σ:St}(h:RepG K (mt S F) H g σ)(x:Ext S H S' H'):RepG K (mt S' F) H' g σ:=h.keep x.kp
theorem RepG.look{K:Fg}{M:Am}{H:Hp}{k:D->Prop}:∀{g:Gm}{σ:St}{i:Nat},RepG K M H g σ->look g i k->∃v d,σ[i]?=some (some v)/\RepV K M H d v/\k d
 |[],_,0,_,h=>eC h
 |[],_,_+1,_,h=>eC h
 |none::_,_,0,_,h=>eC h
 |some d::g,_,0,⟨v,τ,e,q,r⟩,h=>⟨v,d,by rw[e];rfl,q,h⟩
 |some d::g,_,i+1,⟨v,τ,e,q,r⟩,h=>by
  obtain⟨u,z,j,h1⟩:=RepG.look (i:=i) r h;exact⟨u,z,by rw[e];simpa using j,h1⟩
 |none::g,_,i+1,⟨v,τ,e,r⟩,h=>by
  obtain⟨u,z,j,h1⟩:=RepG.look (i:=i) r h;exact⟨u,z,by rw[e];simpa using j,h1⟩
theorem RepG.set{K:Fg}{M:Am}{H:Hp}{d:D}{v:V}(q:RepV K M H d v):∀{g:Gm}{σ:St}(i:Nat),RepG K M H g σ->RepG K M H (g.set i (some d)) (σ.set i (some v))
 |[],_,_,h=>by cases h;rfl
 |none::g,_,0,⟨w,τ,e,r⟩=>by subst e;exact⟨v,τ,rfl,q,r⟩
 |some _::g,_,0,⟨w,τ,e,_,r⟩=>by subst e;exact⟨v,τ,rfl,q,r⟩
 |none::g,_,i+1,⟨w,τ,e,r⟩=>by subst e;exact⟨w,_,rfl,RepG.set q i r⟩
 |some _::g,_,i+1,⟨w,τ,e,z,r⟩=>by subst e;exact⟨w,_,rfl,z,RepG.set q i r⟩
abbrev DK:=D->Sto->Prop
abbrev ED:=Gm->Sto->DK->Prop
abbrev TD:=Gm->Sto->(Bool->Sto->Prop)->Prop
abbrev AD:=Gm->Sto->(List D->Sto->Prop)->Prop
structure EndsD where
 nx:Gm->Sto->Prop
 rt:DK
 bk:Gm->Sto->Prop:=λ_ _=>False
 ct:Gm->Sto->Prop:=λ_ _=>False
abbrev SD:=EndsD->Gm->Sto->Prop
def upE(K:Fg)(t:ED):TE:=fun σ H Q=>∃F S Γ QD,Rp K F S H/\RepG K (mt S F) H Γ σ/\t Γ S QD/\∀v d H' S',Ext S H S' H'->Rp K F S' H'->RepV K (mt S' F) H' d v->QD d S'->Q v H'
theorem upE.el{K:Fg}{t:ED}{σ:St}{H:Hp}{Q:VK}{p:Prop}(h:upE K t σ H Q)(k:∀F S Γ QD,Rp K F S H->RepG K (mt S F) H Γ σ->t Γ S QD->(∀v d H' S',Ext S H S' H'->Rp K F S' H'->RepV K (mt S' F) H' d v->QD d S'->Q v H')->p):p:=by
 obtain⟨F,S,Γ,QD,h0,h1,h2,j⟩:=h;exact k F S Γ QD h0 h1 h2 j
def upT(K:Fg)(t:TD):TT:=fun σ H Q=>∃F S Γ QD,Rp K F S H/\RepG K (mt S F) H Γ σ/\t Γ S QD/\∀b H' S',Ext S H S' H'->Rp K F S' H'->QD b S'->Q b H'
theorem upT.el{K:Fg}{t:TD}{σ:St}{H:Hp}{Q:Bool->Hp->Prop}{p:Prop}(h:upT K t σ H Q)(k:∀F S Γ QD,Rp K F S H->RepG K (mt S F) H Γ σ->t Γ S QD->(∀b H' S',Ext S H S' H'->Rp K F S' H'->QD b S'->Q b H')->p):p:=by
 obtain⟨F,S,Γ,QD,h0,h1,h2,j⟩:=h;exact k F S Γ QD h0 h1 h2 j
def upA(K:Fg)(t:AD):TA:=fun σ H Q=>∃F S Γ QD,Rp K F S H/\RepG K (mt S F) H Γ σ/\t Γ S QD/\∀vs ds H' S',Ext S H S' H'->Rp K F S' H'->RepL K (mt S' F) H' ds vs->QD ds S'->Q vs H'
theorem upA.el{K:Fg}{t:AD}{σ:St}{H:Hp}{Q:List V->Hp->Prop}{p:Prop}(h:upA K t σ H Q)(k:∀F S Γ QD,Rp K F S H->RepG K (mt S F) H Γ σ->t Γ S QD->(∀vs ds H' S',Ext S H S' H'->Rp K F S' H'->RepL K (mt S' F) H' ds vs->QD ds S'->Q vs H')->p):p:=by
 obtain⟨F,S,Γ,QD,h0,h1,h2,j⟩:=h;exact k F S Γ QD h0 h1 h2 j
structure CnS(K:Fg)(F:Am)(S:Sto)(H:Hp)(E:EndsD)(D':Ends):Prop where
 nx:∀Γ' S' σ' H',Ext S H S' H'->Rp K F S' H'->RepG K (mt S' F) H' Γ' σ'->E.nx Γ' S'->D'.nx σ' H'
 rt:∀v d H' S',Ext S H S' H'->Rp K F S' H'->RepV K (mt S' F) H' d v->E.rt d S'->D'.rt v H'
 bk:∀Γ' S' σ' H',Ext S H S' H'->Rp K F S' H'->RepG K (mt S' F) H' Γ' σ'->E.bk Γ' S'->D'.bk σ' H'
 ct:∀Γ' S' σ' H',Ext S H S' H'->Rp K F S' H'->RepG K (mt S' F) H' Γ' σ'->E.ct Γ' S'->D'.ct σ' H'
theorem CnS.ext{K:Fg}{F:Am}{S S1:Sto}{H H1:Hp}{E:EndsD}{D':Ends}(c:CnS K F S H E D')(x:Ext S H S1 H1):CnS K F S1 H1 E D' :=
 ⟨fun Γ' S' σ' H' y=>c.nx Γ' S' σ' H' (x.trans y),λv d H' S' y=>c.rt v d H' S' (x.trans y),fun Γ' S' σ' H' y=>c.bk Γ' S' σ' H' (x.trans y),fun Γ' S' σ' H' y=>c.ct Γ' S' σ' H' (x.trans y)⟩
def upS(K:Fg)(t:SD):TS:=λD' σ H=>∃F S Γ E,Rp K F S H/\RepG K (mt S F) H Γ σ/\t E Γ S/\CnS K F S H E D'
theorem upS.el{K:Fg}{t:SD}{D':Ends}{σ:St}{H:Hp}{p:Prop}(h:upS K t D' σ H)(k:∀F S Γ E,Rp K F S H->RepG K (mt S F) H Γ σ->t E Γ S->CnS K F S H E D'->p):p:=by
 obtain⟨F,S,Γ,E,h0,h1,h2,j⟩:=h;exact k F S Γ E h0 h1 h2 j
structure PD(K:Fg)(X:Cx)(e:Expr)(t:ED):Prop where
 o:PE X e (upE K t)
structure PTD(K:Fg)(X:Cx)(e:Expr)(t:TD):Prop where
 o:PT X e (upT K t)
structure PAD(K:Fg)(X:Cx)(es:List Expr)(t:AD):Prop where
 o:PA X es (upA K t)
structure PSD(K:Fg)(X:Cx)(st:Stmt)(t:SD):Prop where
 o:PS X st (upS K t)
structure PSsD(K:Fg)(X:Cx)(st:List Stmt)(t:SD):Prop where
 o:PSs X st (upS K t)
section
variable{X:Cx}{K:Fg}
theorem PD.of{e:Expr}{te:TE}{t:ED}(h:PE X e te)(i:∀σ H Q,upE K t σ H Q->te σ H Q):PD K X e t:=⟨λpins s σ H Q I q=>h pins s σ H Q I (i σ H Q q)⟩
theorem PTD.of{e:Expr}{te:TT}{t:TD}(h:PT X e te)(i:∀σ H Q,upT K t σ H Q->te σ H Q):PTD K X e t:=⟨λpins s σ H Q I q=>h pins s σ H Q I (i σ H Q q)⟩
theorem PAD.of{e:List Expr}{te:TA}{t:AD}(h:PA X e te)(i:∀σ H Q,upA K t σ H Q->te σ H Q):PAD K X e t:=⟨λpos pins s σ H Q I q=>h pos pins s σ H Q I (i σ H Q q)⟩
theorem PSD.of{e:Stmt}{te:TS}{t:SD}(h:PS X e te)(i:∀D' σ H,upS K t D' σ H->te D' σ H):PSD K X e t:=⟨λpins s σ H D' I q=>h pins s σ H D' I (i D' σ H q)⟩
theorem PSsD.of{e:List Stmt}{te:TS}{t:SD}(h:PSs X e te)(i:∀D' σ H,upS K t D' σ H->te D' σ H):PSsD K X e t:=⟨λpins s σ H D' I q=>h pins s σ H D' I (i D' σ H q)⟩
def dVar(i:Nat):ED:=fun Γ S Q=>look Γ i λd=>Q d S
def dC(d:D):ED:=λ_ S Q=>Q d S
theorem dv(i:Nat){x:Str}{pos:Pos}(hN:X.N[i]?=some x:=by rfl)(hv:Vis X.env.scope x:=by first|exact a9 rfl|exact iz (a9 rfl)|exact iz (iz rfl))(hd:(x==("__debug__":Str))=false:=by decide)
  (hcd:(x==("__classdict__":Str))=false:=by decide):PD K X (.Name x pos) (dVar i):=.of (eXw hN hv hd hcd) fun σ H Q j=>j.el λF S Γ QD r g h c=>by
 obtain⟨v,d,e,q,z⟩:=g.look h;exact⟨v,e,c v d H S (Ext.refl _ _) r q z⟩
theorem up_c{d:D}{v:V}(h:∀M H,RepV K M H d v):∀σ H Q,upE K (dC d) σ H Q->tC v σ H Q:=fun σ H Q j=>j.el λF S Γ QD r g q c=>c v d H S (Ext.refl _ _) r (h _ _) q
theorem aQb{i j pos}:PD K X (.Constant (.int i) j pos) (dC (.int i)):=.of eXx (up_c λ_ _=>by unfold RepV;rfl)
theorem e_bl{b j pos}:PD K X (.Constant (.bool b) j pos) (dC (.bl b)):=.of fX9 (up_c λ_ _=>by unfold RepV;rfl)
theorem aXk{x j pos}:PD K X (.Constant (.str x) j pos) (dC (.str x)):=.of eXy (up_c λ_ _=>by unfold RepV;rfl)
def Cn(K:Fg)(F:Am)(S:Sto)(H:Hp)(QD:DK)(Q:VK):Prop:=∀v d H' S',Ext S H S' H'->Rp K F S' H'->RepV K (mt S' F) H' d v->QD d S'->Q v H'
abbrev R2D:=D->D->Sto->DK->Prop
def OpD(K:Fg)(r:R2)(rd:R2D):Prop:=∀F S H d e x y Q QD,Rp K F S H->RepV K (mt S F) H d x->RepV K (mt S F) H e y->rd d e S QD->Cn K F S H QD Q->r x y H Q
def dOp(rd:R2D)(ta tb:ED):ED:=fun Γ S Q=>ta Γ S λx S1=>tb Γ S1 λy S2=>rd x y S2 Q
theorem dZj{r:R2}{rd:R2D}{ta tb:ED}(h:OpD K r rd):∀σ H Q,upE K (dOp rd ta tb) σ H Q->tOp r (upE K ta) (upE K tb) σ H Q:=fun σ H Q D=>D.el λF S Γ QD r g q c =>
 ⟨F,S,Γ,_,r,g,q,λx d H1 S1 B L v1 U=>⟨F,S1,Γ,_,L,g.ext B,U,λy e H2 Z j J v2 O=>h F Z H2 d e x y Q QD J (v1.ext j) v2 O λv z H3 Y G=>c v z H3 Y (B.trans (j.trans G))⟩⟩
theorem e_op{op:Operator}{r:R2}{rd:R2D}{a b:Expr}{ta tb:ED}{pos:Pos}(ho:OpR X (eD op) r)(h:OpD K r rd)(ha:PD K X a ta)(hb:PD K X b tb):PD K X (.BinOp a op b pos) (dOp rd ta tb):=.of (fXg ho ha.o hb.o) (dZj h)
theorem fXu{op:CmpOp}{r:R2}{rd:R2D}{a b:Expr}{ta tb:ED}{pos:Pos}(ho:OpR X (cy op) r)(h:OpD K r rd)(ha:PD K X a ta)(hb:PD K X b tb)(hm:eL op b=false):PD K X (.Compare a [op] [b] pos) (dOp rd ta tb):=.of (dJz ho ha.o hb.o hm) (dZj h)
def aXq(t:ED):TD:=fun Γ S Q=>t Γ S λd S1=>∃b,d=.bl b/\Q b S1
theorem fQg{r:R2}{rd:R2D}{ta tb:ED}(h:OpD K r rd):∀ σ H Q,upT K (aXq (dOp rd ta tb)) σ H Q->eQ0 (tOp r (upE K ta) (upE K tb)) σ H Q:=fun σ H Q q=>dZj (rd:=rd) h σ H _ (by
 obtain⟨F,S,Γ,QD,r,g,q,c⟩:=q;refine⟨F,S,Γ,_,r,g,q,λv d H1 D j z v1 ⟨b,e,B⟩=>?_⟩;subst e;unfold RepV at v1;exact⟨b,v1,c b H1 D j z B⟩)
theorem aJd{op:CmpOp}{r:R2}{rd:R2D}{a b:Expr}{ta tb:ED}{pos:Pos}(ho:OpR X (cy op) r)(h:OpD K r rd)(ha:PD K X a ta)(hb:PD K X b tb)(hm:eL op b=false):PTD K X (.Compare a [op] [b] pos) (aXq (dOp rd ta tb)):=.of (eQ1 ho ha.o hb.o hm) (fQg h)
end
end L2
set_option maxHeartbeats 4000000
namespace L2
open PySem PySem.Spec PyProof.Rows
section
variable{K:Fg}{F:Am}{S:Sto}{H:Hp}{QD:DK}{Q:VK}
theorem Cn.here(c:Cn K F S H QD Q)(r:Rp K F S H){d:D}{v:V}(h:RepV K (mt S F) H d v)(q:QD d S):Q v H:=c v d H S (Ext.refl _ _) r h q
theorem Cn.int(c:Cn K F S H QD Q)(r:Rp K F S H){i:Int}(q:QD (.int i) S):Q (.int i) H:=c.here r (by unfold RepV;rfl) q
theorem Cn.str(c:Cn K F S H QD Q)(r:Rp K F S H){i:Str}(q:QD (.str i) S):Q (.str i) H:=c.here r (by unfold RepV;rfl) q
theorem Cn.bl(c:Cn K F S H QD Q)(r:Rp K F S H){i:Bool}(q:QD (.bl i) S):Q (.bl i) H:=c.here r (by unfold RepV;rfl) q
theorem Rp.nmt(r:Rp K F S H){a:Addr}(h:H a=none):¬ mt S F a:=λz=>by
 rcases z with z|z
 ·exact z (r.sn h)
 ·obtain⟨⟨zs,e,_⟩,_⟩:=r.frm a z;rw[h] at e;cases e
theorem Cn.tup(c:Cn K F S H QD Q)(r:Rp K F S H){l:Addr}(h:H l=none){ds:List D}{xs:List V}(rl:RepL K (mt S F) H ds xs)(q:QD (.tup ds) S):Q (.ref l) (upd H l (.tup xs)):=by
 have x:Ext S H S (upd H l (.tup xs)):=Ext.same (aQt h);refine c _ _ _ S x (r.same (aQt h)) ?_ q;unfold RepV;exact⟨l,xs,rfl,.inl ⟨r.nmt h,.inl aQ8⟩,rl.ext x⟩
theorem Cn.lst(c:Cn K F S H QD Q)(r:Rp K F S H){l:Addr}(h:H l=none){ds:List D}{xs:List V}(rl:RepL K (mt S F) H ds xs)(q:QD (.lst ds) S):Q (.ref l) (upd H l (.lst xs)):=by
 have x:Ext S H S (upd H l (.lst xs)):=Ext.same (aQt h);refine c _ _ _ S x (r.same (aQt h)) ?_ q;unfold RepV;exact⟨l,xs,rfl,.inl ⟨r.nmt h,.inl aQ8⟩,rl.ext x⟩
theorem Cn.lstR(c:Cn K F S H QD Q)(r:Rp K F S H){l:Addr}(h:H l=none){ds:List D}{xs:List V}(rl:RepL K (mt S F) H ds xs)(q:QD (.ref l) (supd S l (.lst ds))):Q (.ref l) (upd H l (.lst xs)):=by
 have x:Ext S H (supd S l (.lst ds)) (upd H l (.lst xs)):=Ext.mk' h;exact c _ _ _ _ x (r.mk' h ⟨xs,aQ8,rl.ext x⟩) (by unfold RepV;rfl) q
def newL(b:Bool)(ds:List D)(S:Sto)(Q:DK):Prop:=match b with
 |false=>Q (.lst ds) S
 |true=>∀p,S p=none->Q (.ref p) (supd S p (.lst ds))
theorem Cn.new(c:Cn K F S H QD Q)(r:Rp K F S H){b:Bool}{l:Addr}(h:H l=none){ds:List D}{xs:List V}(rl:RepL K (mt S F) H ds xs)(q:newL b ds S QD):Q (.ref l) (upd H l (.lst xs)):=by
 cases b with
 |false=>exact c.lst r h rl q
 |true=>exact c.lstR r h rl (q l (r.sn h))
def lsIs(S:Sto):D->List D->Prop
 |.lst ys,xs=>ys=xs
 |.ref a,xs=>S a=some (.lst xs)
 |_,_=>False
def sqIs(S:Sto):D->List D->Prop
 |.tup ys,xs=>ys=xs
 |.lst ys,xs=>ys=xs
 |.ref a,xs=>S a=some (.lst xs)
 |_,_=>False
theorem lsIs.sl(r:Rp K F S H){d:D}{v:V}{ds:List D}(h:RepV K (mt S F) H d v)(l:lsIs S d ds):∃a xs,v=.ref a/\SqL K H a xs/\RepL K (mt S F) H ds xs:=by
 cases d with
 |lst ys =>
  cases l;unfold RepV at h;obtain⟨a,xs,e,q,z⟩:=h;exact⟨a,xs,e,q.sq,z⟩
 |ref a =>
  unfold RepV at h;obtain⟨xs,e,z⟩:=r.obj a _ l;exact⟨a,xs,h,SqL.of e,z⟩
 |_=>exact l.elim
theorem tup.st{ds:List D}{v:V}(h:RepV K (mt S F) H (.tup ds) v):∃a xs,v=.ref a/\SqT K H a xs/\RepL K (mt S F) H ds xs:=by
 unfold RepV at h;obtain⟨a,xs,e,t,z⟩:=h;exact⟨a,xs,e,t.sq,z⟩
theorem sqIs.sq(r:Rp K F S H){d:D}{v:V}{ds:List D}(h:RepV K (mt S F) H d v)(l:sqIs S d ds):∃a xs,v=.ref a/\(SqL K H a xs\/SqT K H a xs)/\RepL K (mt S F) H ds xs:=by
 cases d with
 |tup ys =>
  cases l;obtain⟨a,xs,e,t,z⟩:=tup.st h;exact⟨a,xs,e,.inr t,z⟩
 |lst ys =>
  obtain⟨a,xs,e,t,z⟩:=lsIs.sl r h (show lsIs S (.lst ys) ds from l)
  exact⟨a,xs,e,.inl t,z⟩
 |ref a =>
  obtain⟨a,xs,e,t,z⟩:=lsIs.sl r h (show lsIs S (.ref a) ds from l)
  exact⟨a,xs,e,.inl t,z⟩
 |_=>exact l.elim
theorem rint{i:Int}{v:V}(h:RepV K (mt S F) H (.int i) v):v=.int i:=by unfold RepV at h;exact h
theorem rstr{i:Str}{v:V}(h:RepV K (mt S F) H (.str i) v):v=.str i:=by unfold RepV at h;exact h
theorem rbl{i:Bool}{v:V}(h:RepV K (mt S F) H (.bl i) v):v=.bl i:=by unfold RepV at h;exact h
theorem rref{i:Addr}{v:V}(h:RepV K (mt S F) H (.ref i) v):v=.ref i:=by unfold RepV at h;exact h
theorem rnon{v:V}(h:RepV K (mt S F) H .non v):v=.non:=by unfold RepV at h;exact h
end
section
variable{X:Cx}{K:Fg}
def fQh(K:Fg):R2:=λx y H Q=>∃l b xs zs,x=.ref l/\y=.ref b/\SqL K H l xs/\SqL K H b zs/\xs.length+zs.length<=sizeLine/\∀p,H p=none->Q (.ref p) (upd H p (.lst (xs++zs)))
theorem eQx(hK:X.K=K:=by rfl):OpR X (eD .Add) (fQh K):=by
 subst hK;intro pins s σ H x y v u Q I rx ry h;obtain⟨l,b,xs,zs,rfl,rfl,hH,hB,hz,q⟩:=h;cases rx;cases ry;obtain⟨B,r,⟨⟨cls,dd,data,sl⟩,n,U,Y,hd,G⟩,hz1⟩:=I.list hH;obtain⟨j,O,⟨⟨Z,dd2,data2,L⟩,n2,D,J,hd2,z⟩,hz2⟩:=I.list hB;simp only at Y hd G J hd2 z;subst Y hd G J hd2 z;have h1:=r.length;have h2:=O.length;refine jS ⟨_,U,rfl⟩ ⟨_,D,rfl⟩ noFill_list_add seq_list_add PySem.F.slot_list_add PySem.F.entry_list_add (PySem.F.args_list_add_2 _ _)
  (list_addW l b B.toArray j.toArray n n2 none none sl L (by rw[aq,aq];lia)) ⟨U,D,?_⟩
 have ea:B.toArray++j.toArray=(B++j).toArray:=by simp
 rw[ea];exact⟨.ref _,_,I.lnew (t':=s.toks) (r.append O) (by rw[ap];lia),rfl,q _ I.fresh⟩
def fQi(K:Fg):R2:=λx y H Q=>∃a b ys,x=.ref a/\y=.ref b/\SqT K H a []/\SqT K H b ys/\Q (.ref b) H
theorem eQy(hK:X.K=K:=by rfl):OpR X (eD .Add) (fQi K):=by
 subst hK;intro pins s σ H x y v u Q I rx ry h;obtain⟨a,b,ys,rfl,rfl,ha,hb,q⟩:=h;cases rx;cases ry;obtain⟨Z,r1,U,_⟩:=I.tuple ha;obtain⟨G,r2,p2,_⟩:=I.tuple hb;cases r1;obtain⟨⟨cls,dd,data,sl⟩,J,L,n,hd⟩:=id U;obtain⟨⟨O,D,data2,B⟩,j,z,Y,hd2⟩:=id p2;simp only at L hd z hd2;subst L hd z hd2;exact jS ⟨_,J,rfl⟩ ⟨_,j,rfl⟩ jy seq_tuple_add gI gC (gk _ _)
   (tuple_addW0 a b _ _ n Y dd D sl B rfl) ⟨J,j,⟨.ref b,H,I,rfl,q⟩⟩
def addD(b:Bool):R2D:=λd e S Q=>match d,e with
 |.int i,.int j=>Q (.int (i+j)) S
 |.str x,.str y=>x.length+y.length<=sizeLine/\Q (.str (x++y)) S
 |.tup xs,.tup ys=>xs.length+ys.length<=sizeLine/\Q (.tup (xs++ys)) S
 |d,e=>∃xs ys,lsIs S d xs/\lsIs S e ys/\xs.length+ys.length<=sizeLine/\newL b (xs++ys) S Q
def eQz(K:Fg):R2:=λx y H Q=>rI0 (λi j=>.int (i+j)) x y H Q\/(∃i j,x=.str i/\y=.str j/\i.length+j.length<=sizeLine/\Q (.str (i++j)) H)\/eQ6 K x y H Q\/fQi K x y H Q\/fQh K x y H Q
theorem eZ0(hK:X.K=K:=by rfl):OpR X (eD .Add) (eQz K):=op_add.or (op_add_str.or ((dZe hK).or ((eQy hK).or (eQx hK))))
theorem fQj{b:Bool}:OpD K (eQz K) (addD b):=by
 intro F S H d e x y Q QD r hd he h c;have lists:(∃xs ys,lsIs S d xs/\lsIs S e ys/\xs.length+ys.length<=sizeLine/\newL b (xs++ys) S QD)->eQz K x y H Q:=by
  rintro⟨xs,ys,L,J,O,q⟩;obtain⟨a,us,rfl,s1,B⟩:=lsIs.sl r hd L;obtain⟨a2,us2,rfl,s2,p2⟩:=lsIs.sl r he J;exact .inr (.inr (.inr (.inr ⟨a,a2,us,us2,rfl,rfl,s1,s2,by rw[B.length,p2.length];exact O,λp D=>c.new r D (B.app p2) q⟩)))
 cases d with
 |int i =>
  cases e with
  |int j=>rw[rint hd,rint he];exact .inl ⟨i,j,rfl,rfl,c.int r h⟩
  |_=>exact lists h
 |str i =>
  cases e with
  |str j=>rw[rstr hd,rstr he];exact .inr (.inl ⟨i,j,rfl,rfl,h.1,c.str r h.2⟩)
  |_=>exact lists h
 |tup xs =>
  cases e with
  |tup ys =>
   obtain⟨a,us,rfl,s1,B⟩:=tup.st hd;obtain⟨a2,us2,rfl,s2,p2⟩:=tup.st he
   by_cases G:xs=[]
   ·subst G;unfold RepL at B;subst B;exact .inr (.inr (.inr (.inl ⟨a,a2,us2,rfl,rfl,s1,s2,c.here r he (by simpa using h.2)⟩)))
   ·refine .inr (.inr (.inl ⟨a,a2,us,us2,rfl,rfl,s1,s2,λz=>G ?_,by rw[B.length,p2.length];exact h.1,λz=>?_,λ_ p D=>c.tup r D (B.app p2) h.2⟩))
    ·have:=B.length;rw[z] at this;exact bZ this.symm
    ·have h0:ys=[]:=by have:=p2.length;rw[z] at this;exact bZ this.symm
     subst h0;exact c.here r hd (by simpa using h.2)
  |_=>exact lists h
 |_=>exact lists h
def iiD(C:Int->Int->Prop)(g:Int->Int->D):R2D:=λd e S Q=>match d,e with
 |.int i,.int j=>C i j/\Q (g i j) S
 |_,_=>False
theorem od_I{C:Int->Int->Prop}{g:Int->Int->Int}:OpD K (rI C λi j=>.int (g i j)) (iiD C λi j=>.int (g i j)):=by
 intro F S H d e x y Q QD r hd he h c;cases d with
 |int i =>
  cases e with
  |int j=>rw[rint hd,rint he];exact⟨i,j,rfl,rfl,h.1,c.int r h.2⟩
  |_=>exact h.elim
 |_=>exact h.elim
def iiD0(g:Int->Int->D):R2D:=λd e S Q=>match d,e with
 |.int i,.int j=>Q (g i j) S
 |_,_=>False
theorem fXv{g:Int->Int->Int}:OpD K (rI0 λi j=>.int (g i j)) (iiD0 λi j=>.int (g i j)):=by
 intro F S H d e x y Q QD r hd he h c;cases d with
 |int i =>
  cases e with
  |int j=>rw[rint hd,rint he];exact⟨i,j,rfl,rfl,c.int r h⟩
  |_=>exact h.elim
 |_=>exact h.elim
theorem dZk{g:Int->Int->Bool}:OpD K (rI0 λi j=>.bl (g i j)) (iiD0 λi j=>.bl (g i j)):=by
 intro F S H d e x y Q QD r hd he h c;cases d with
 |int i =>
  cases e with
  |int j=>rw[rint hd,rint he];exact⟨i,j,rfl,rfl,c.bl r h⟩
  |_=>exact h.elim
 |_=>exact h.elim
section
variable{a b:Expr}{ta tb:ED}{pos:Pos}
theorem aQp{k:Bool}(ha:PD K X a ta)(hb:PD K X b tb)(hK:X.K=K:=by rfl):PD K X (.BinOp a .Add b pos) (dOp (addD k) ta tb):=e_op (eZ0 hK) fQj ha hb
theorem dZl(ha:PD K X a ta)(hb:PD K X b tb):PD K X (.BinOp a .Sub b pos) (dOp (iiD0 λi j=>.int (i-j)) ta tb):=e_op eJ8 fXv ha hb
theorem aJ2(ha:PD K X a ta)(hb:PD K X b tb):PD K X (.BinOp a .Mult b pos) (dOp (iiD CMul λi j=>.int (i*j)) ta tb):=e_op eJ9 od_I ha hb
theorem bQo(ha:PD K X a ta)(hb:PD K X b tb):PD K X (.BinOp a .Mod b pos) (dOp (iiD (λ_ j=>0<j) λi j=>.int (i%j)) ta tb):=e_op eJa od_I ha hb
theorem dXz(ha:PD K X a ta)(hb:PD K X b tb):PD K X (.BinOp a .FloorDiv b pos) (dOp (iiD CDiv λi j=>.int (i/j)) ta tb):=e_op dJy od_I ha hb
theorem fXw(ha:PD K X a ta)(hb:PD K X b tb):PD K X (.BinOp a .Pow b pos) (dOp (iiD CPow λi j=>.int (i^j.toNat)) ta tb):=e_op eJb od_I ha hb
end
def unD(g:Int->D):D->Sto->DK->Prop:=λd S Q=>match d with
 |.int i=>Q (g i) S
 |_=>False
def dUn(rd:D->Sto->DK->Prop)(ta:ED):ED:=fun Γ S Q=>ta Γ S λx S1=>rd x S1 Q
theorem fQk{a:Expr}{ta:ED}{pos:Pos}(ha:PD K X a ta):PD K X (.UnaryOp .USub a pos) (dUn (unD λi=>.int (-i)) ta):=.of (fXh eJc ha.o) fun σ H Q B=>B.el λF S Γ QD r g q c =>
 ⟨F,S,Γ,_,r,g,q,λv d H1 U G J v1 j=>by
  cases d with
  |int i=>rw[rint v1];exact⟨i,rfl,Cn.int (λv z O L D=>c v z O L (G.trans D)) J j⟩
  |_=>exact j.elim⟩
def dNil:AD:=λ_ S Q=>Q [] S
def bJl(ta:ED)(tr:AD):AD:=fun Γ S Q=>ta Γ S λx S1=>tr Γ S1 λxs S2=>Q (x::xs) S2
theorem aQ1:PAD K X [] dNil:=.of bX9 fun σ H Q j=>j.el λF S Γ QD r g q c=>c [] [] H S (Ext.refl _ _) r RepL.nil q
theorem aQ0{e:Expr}{es:List Expr}{te:ED}{t:AD}(ha:PD K X e te)(hr:PAD K X es t)(hs:aC (e::es) X.env=(false,eval e X.env)::aC es X.env:=by rfl):PAD K X (e::es) (bJl te t) :=
 .of (aJt ha.o hr.o hs) fun σ H Q B=>B.el λF S Γ QD r g q c=>⟨F,S,Γ,_,r,g,q,λv d H1 U z G v1 L=>⟨F,U,Γ,_,G,g.ext z,L,λvs ds H2 O j D v2 J=>c (v::vs) (d::ds) H2 O (z.trans j) D (RepL.cons (v1.ext j) v2) J⟩⟩
def dTup(t:AD):ED:=fun Γ S Q=>t Γ S λds S1=>ds.length<=sizeLine/\Q (.tup ds) S1
def dLst(b:Bool)(t:AD):ED:=fun Γ S Q=>t Γ S λds S1=>ds.length<=sizeLine/\newL b ds S1 Q
theorem Cn.shift{F:Am}{S S1:Sto}{H H1:Hp}{QD:DK}{Q:VK}(c:∀v d H' S',Ext S H S' H'->Rp K F S' H'->RepV K (mt S' F) H' d v->QD d S'->Q v H')(x:Ext S H S1 H1):Cn K F S1 H1 QD Q:=λv z B q j=>c v z B q (x.trans j)
theorem bQ6{es:List Expr}{t:AD}{x1 pos}(h:PAD K X es t):PD K X (.Tuple es x1 pos) (dTup t):=.of (eJf h.o) fun σ H Q z=>z.el λF S Γ QD r g q c =>
 ⟨F,S,Γ,_,r,g,q,λvs ds H1 G x1 B v1 j=>⟨by rw[v1.length];exact j.1,λp D=>(Cn.shift c x1).tup B D v1 j.2⟩⟩
theorem aX0{b:Bool}{es:List Expr}{t:AD}{pos}(h:PAD K X es t):PD K X (.List es pos) (dLst b t):=.of (eJg h.o) fun σ H Q z=>z.el λF S Γ QD r g q c =>
 ⟨F,S,Γ,_,r,g,q,λvs ds H1 J B D v1 j=>⟨by rw[v1.length];exact j.1,λp G=>(Cn.shift c B).new D G v1 j.2⟩⟩
abbrev RCD:=List D->Sto->DK->Prop
def bJm(K:Fg)(r:List V->Hp->VK->Prop)(rd:RCD):Prop:=∀F S H ds vs Q QD,Rp K F S H->RepL K (mt S F) H ds vs->rd ds S QD->Cn K F S H QD Q->r vs H Q
def dCB(rd:RCD)(t:AD):ED:=fun Γ S Q=>t Γ S λds S1=>rd ds S1 Q
theorem fQl{r:List V->Hp->VK->Prop}{rd:RCD}{t:AD}(h:bJm K r rd):∀σ H Q,upE K (dCB rd t) σ H Q->tCB r (upA K t) σ H Q:=fun σ H Q j=>j.el λF S Γ QD r g q c =>
 ⟨F,S,Γ,_,r,g,q,λvs ds H1 G z B v1 D=>h F G H1 ds vs Q QD B v1 D (Cn.shift c z)⟩
theorem aJ3{id:String}{r:List V->Hp->VK->Prop}{rd:RCD}{x:Str}{p pos:Pos}{e:Expr}{es:List Expr}{t:AD}(hc:CallR X (.builtin id) r)(h:bJm K r rd)(hg:Gl X x)(hm:X.mg x=none)(hv:cI x=some (.builtin id))(ha:PAD K X (e::es) t)(hn:x ≠ "__name__":=by decide)(hdb:(x==("__debug__":Str))=false:=by decide)
  (he:aC (e::es) X.env=(false,eval e X.env)::aC es X.env:=by rfl) (hpl:(cO pos (aC es X.env)).any (·.1)=false:=by rfl):PD K X (.Call (.Name x p) (e::es) [] pos) (dCB rd t):=.of (aJl hc hg hm hv ha.o hn hdb he hpl) (fQl h)
theorem dZm{T:String}{r:List V->Hp->VK->Prop}{rd:RCD}{x:Str}{p pos:Pos}{e:Expr}{es:List Expr}{t:AD}(hc:CallR X (.type T) r)(h:bJm K r rd)(hg:Gl X x)(hm:X.mg x=none)(hv:cI x=some (.type T))(ha:PAD K X (e::es) t)(hn:x ≠ "__name__":=by decide)(hdb:(x==("__debug__":Str))=false:=by decide)
  (he:aC (e::es) X.env=(false,eval e X.env)::aC es X.env:=by rfl) (hpl:(cO pos (aC es X.env)).any (·.1)=false:=by rfl):PD K X (.Call (.Name x p) (e::es) [] pos) (dCB rd t):=.of (bXc hc hg hm hv ha.o hn hdb he hpl) (fQl h)
end
mutual
def beqD:D->D->Bool
 |.non,.non=>true
 |.bl a,.bl b=>a==b
 |.int a,.int b=>decide (a=b)
 |.str a,.str b=>decide (a=b)
 |.ty a,.ty b=>decide (a=b)
 |.ref a,.ref b=>decide (a=b)
 |.tup a,.tup b=>bJn a b
 |.lst a,.lst b=>bJn a b
 |_,_=>false
def bJn:List D->List D->Bool
 |[],[]=>true
 |a::as,b::bs=>beqD a b&&bJn as bs
 |_,_=>false
end
theorem bqE{α:Type}[BEq α][LawfulBEq α]{c:α->D}(inj:∀x y,c x=c y->x=y)(x y:α):(x==y)=true↔c x=c y:=⟨λh=>congrArg c (beq_iff_eq.mp h),λh=>beq_iff_eq.mpr (inj x y h)⟩
theorem bdE{α:Type}{c:α->D}(inj:∀x y,c x=c y->x=y)(x y:α){d:Decidable (x=y)}:@decide (x=y) d=true↔c x=c y:=⟨λh=>congrArg c (of_decide_eq_true h),λh=>decide_eq_true (inj x y h)⟩
theorem bnE{p:Prop}(h:¬ p):false=true↔p:=⟨λz=>absurd z bz,λz=>absurd z h⟩
mutual
theorem cJa:∀{a b:D},beqD a b=true↔a=b
 |.non,b=>by
  cases b with
  |non=>exact⟨λ_=>rfl,λ_=>rfl⟩
  |_=>exact bnE (λh=>by cases h)
 |.bl x,b=>by
  cases b with
  |bl y=>exact bqE (λ_ _ h=>by injection h) x y
  |_=>exact bnE (λh=>by cases h)
 |.int x,b=>by
  cases b with
  |int y=>exact bdE (λ_ _ h=>by injection h) x y
  |_=>exact bnE (λh=>by cases h)
 |.str x,b=>by
  cases b with
  |str y=>exact bdE (λ_ _ h=>by injection h) x y
  |_=>exact bnE (λh=>by cases h)
 |.ty x,b=>by
  cases b with
  |ty y=>exact bdE (λ_ _ h=>by injection h) x y
  |_=>exact bnE (λh=>by cases h)
 |.ref x,b=>by
  cases b with
  |ref y=>exact bdE (λ_ _ h=>by injection h) x y
  |_=>exact bnE (λh=>by cases h)
 |.tup as,b=>by
  cases b with
  |tup bs=>exact beqDs_eq.trans ⟨λh=>congrArg D.tup h,λh=>by injection h⟩
  |_=>exact bnE (λh=>by cases h)
 |.lst as,b=>by
  cases b with
  |lst bs=>exact beqDs_eq.trans ⟨λh=>congrArg D.lst h,λh=>by injection h⟩
  |_=>exact bnE (λh=>by cases h)
theorem beqDs_eq:∀{a b:List D},bJn a b=true↔a=b
 |[],b=>by cases b <;> simp[bJn]
 |a::as,[]=>by simp[bJn]
 |a::as,b::bs=>by
  simp only[bJn,aY,List.cons.injEq];rw[cJa,beqDs_eq]
end
instance:DecidableEq D:=λa b=>decidable_of_iff _ (cJa (a:=a) (b:=b))
def okE:Nat->D->D->Bool
 |_,.int _,.int _=>true
 |_,.str _,.str _=>true
 |_,.bl _,.bl _=>true
 |_,.non,.non=>true
 |_,.non,.int _=>true
 |_,.int _,.non=>true
 |_,.non,.str _=>true
 |_,.str _,.non=>true
 |n+1,.non,.tup _=>true
 |n+1,.tup _,.non=>true
 |n+1,.tup xs,.tup ys=>(xs.zip ys).all λp=>okE n p.1 p.2
 |n+1,.lst xs,.lst ys=>(xs.zip ys).all λp=>okE n p.1 p.2
 |_,_,_=>false
abbrev okEs(n:Nat)(xs ys:List D):Bool:=(xs.zip ys).all λp=>okE n p.1 p.2
section
variable{X:Cx}{pins:List (Addr×Obj)}{σ:St}{H:Hp}{s:aj}{M:Am}
structure Eq3(A:bj)(s:aj)(u v:ae)(b:Bool):Prop where
 eq:dh A s u v b
 rc:SeqAt.RcAt A s u v b
 ne:cR A s u v (!b)
theorem eZ1{xs ys:List D}:decide (D.tup xs=D.tup ys)=decide (xs=ys):=by simp
theorem eZ2{xs ys:List D}:decide (D.lst xs=D.lst ys)=decide (xs=ys):=by simp
theorem eZ3{xs ys:List D}{j:Nat}{a b:D}(h1:xs[j]?=some a)(h2:ys[j]?=some b):(a,b)∈xs.zip ys:=by
 have B:j<xs.length:=by
  rcases Nat.lt_or_ge j xs.length with z|z
  ·exact z
  ·rw[cx z] at h1;cases h1
 have q:j<ys.length:=by
  rcases Nat.lt_or_ge j ys.length with z|z
  ·exact z
  ·rw[cx z] at h2;cases h2
 have L:xs[j]=a:=by rw[af B] at h1;exact aO h1
 have J:ys[j]=b:=by rw[af q] at h2;exact aO h2
 have G:j<(xs.zip ys).length:=by rw[List.length_zip];lia
 have:(xs.zip ys)[j]=(a,b):=by rw[List.getElem_zip,L,J]
 rw[<- this];exact d0 G
theorem dJ0{n:Nat}{xs ys:List V}{us vs:List ae}{ds es:List D}{A:bj}(p:RepL X.K M H ds xs)(p':RepL X.K M H es ys)(r:Vals xs us)(r':Vals ys vs)(hz:okEs n ds es=true)
  (ih:∀{d e:D}{x y:V}{u v:ae},RepV X.K M H d x->RepV X.K M H e y->RelV x u->RelV y v->okE n d e=true->Eq3 A s u v (decide (d=e))) :
  ∀j (h1:j<us.toArray.size) (h2:j<vs.toArray.size),dh A s us.toArray[j] vs.toArray[j] (decide (ds[j]?=es[j]?)):=by
 intro j h1 h2;simp only[aq] at h1 h2;have G:j<xs.length:=by have:=r.length;lia
 have B:j<ys.length:=by have:=r'.length;lia
 obtain⟨d,O,rd⟩:=p.get' (af G);obtain⟨e,L,re⟩:=p'.get' (af B);obtain⟨u,J,Y⟩:=r.get (af G);obtain⟨v,ev,U⟩:=r'.get (af B);have z:us[j]=u:=by rw[af h1] at J;exact aO J
 have q:vs[j]=v:=by rw[af h2] at ev;exact aO ev
 have:decide (ds[j]?=es[j]?)=decide (d=e):=by rw[O,L];simp
 rw[this];simp only[List.getElem_toArray];rw[z,q];exact(ih rd re Y U (b7.mp hz _ (eZ3 O L))).eq
theorem dJ1{n:Nat}{a b:Addr}{xs ys:List V}{ds es:List D}{A:bj}(I:Inv X pins σ H s)(q:SqL X.K H a xs)(q':SqL X.K H b ys)(p:RepL X.K M H ds xs)(p':RepL X.K M H es ys)(hz:okEs n ds es=true)(hu:A.units+(n+1)<cB)
  (ih:∀{d e:D}{x y:V}{u v:ae},RepV X.K M H d x->RepV X.K M H e y->RelV x u->RelV y v->okE n d e=true->Eq3 A.in1 s u v (decide (d=e))) :
  SeqAt.RcAt A s (.ref a) (.ref b) (decide (ds=es))/\cR A s (.ref a) (.ref b) (!decide (ds=es)):=by
 obtain⟨us,O,pl,_⟩:=I.list q;obtain⟨vs,L,z,_⟩:=I.list q';have l1:=p.length;have Z:=p'.length;have Y:=O.length;have U:=L.length;have it:=dJ0 (A:=A.in1) p p' O L hz ih
 by_cases hl:ds.length=es.length
 ·have B:us.toArray.size=vs.toArray.size:=by rw[aq,aq];lia
  have J:((aI (us.toArray.size)).all λj=>decide (ds[j]?=es[j]?))=decide (ds=es):=by
   have:=cXm ds es us.toArray.size vs.toArray.size (by rw[aq];lia) (by rw[aq];lia)
   rw[B,Nat.min_self] at this;rw[B,<- this];simp
  have h1:=SeqAt.RcAt.lists (e:=λj=>decide (ds[j]?=es[j]?)) pl.isList z.isList B (show A.units<cB by lia) λj h1 h2=>it j h1 h2
  have h2:=cR.lists (e:=λj=>decide (ds[j]?=es[j]?)) pl.isList z.isList B (show A.units<cB by lia) λj h1 h2=>it j h1 h2
  rw[J] at h1 h2;exact⟨h1,h2⟩
 ·have B:(us.toArray.size !=vs.toArray.size)=true:=by rw[aq,aq];simp;lia
  have G:ds≠es:=λe=>hl (by rw[e])
  rw[decide_eq_false G];exact⟨SeqAt.RcAt.lists_lengths pl.isList z.isList B (by lia),cR.lists_lengths pl.isList z.isList B (by lia)⟩
theorem eZ4{n:Nat}(ih:∀{d e:D}{v:V},RepV X.K M H d v->RepV X.K M H e v->okE n d e=true->d=e):∀{ds es:List D}{xs:List V},RepL X.K M H ds xs->RepL X.K M H es xs->okEs n ds es=true->ds=es
 |[],[],_,_,_,_=>rfl
 |[],e::es,xs,p,j,_=>by have h1:=p.length;have h2:=j.length;rw[h1] at h2;simp at h2
 |d::ds,[],xs,p,j,_=>by have h1:=p.length;have h2:=j.length;rw[h1] at h2;simp at h2
 |d::ds,e::es,xs,p,j,h=>by
  unfold RepL at p j;obtain⟨v,vs,rfl,r,l⟩:=p;obtain⟨G,q,e1,z,B⟩:=j;cases e1;simp only[okEs,d6,ij,aY] at h;rw[ih r z h.1,eZ4 ih l B h.2]
theorem uniq(I:Inv X pins σ H s):∀(n:Nat) {d e:D}{v:V},RepV X.K M H d v->RepV X.K M H e v->okE n d e=true->d=e:=by
 intro n
 induction n with
 |zero =>
  intro d e v h h' o;cases d <;> cases e <;> first|rfl|(cases o;done)|(unfold RepV at h h';rw[h] at h';cases h';done)|(unfold RepV at h h';rw[h] at h';cases h';rfl)
 |succ n z =>
  intro d e v h h' o;cases d <;> cases e <;> first|rfl|(cases o;done)|(unfold RepV at h h';rw[h] at h';cases h';done)|(unfold RepV at h h';rw[h] at h';cases h';rfl)|skip
  ·unfold RepV at h h';obtain⟨a,xs,e1,_⟩:=h';rw[h] at e1;cases e1
  ·unfold RepV at h h';obtain⟨a,xs,e1,_⟩:=h;rw[h'] at e1;cases e1
  ·unfold RepV at h h';obtain⟨a,xs,rfl,t,l⟩:=h;obtain⟨b,ys,e1,j,q⟩:=h';cases e1
   have:=I.tuple_inj t.sq j.sq
   subst this;rw[eZ4 z l q o]
  ·unfold RepV at h h';obtain⟨a,xs,rfl,t,l⟩:=h;obtain⟨b,ys,e1,j,q⟩:=h';cases e1
   have:=I.list_inj t.sq j.sq
   subst this;rw[eZ4 z l q o]
theorem eq3(I:Inv X pins σ H s):∀(n:Nat) {A:bj}{d e:D}{x y:V}{u v:ae},A.units+n<cB->RepV X.K M H d x->RepV X.K M H e y->RelV x u->RelV y v->okE n d e=true->Eq3 A s u v (decide (d=e)):=by
 intro n
 induction n with
 |zero =>
  intro A d e x y u v hu h h' r r' o;cases d <;> cases e <;> first|(cases o;done)|skip
  all_goals unfold RepV at h h';subst h;subst h'
  ·cases r;cases r';exact⟨kb _,SeqAt.RcAt.none_none,cR.none_none⟩
  ·cases r;obtain⟨t,rfl⟩:=r';exact⟨dh.none_int _ _,SeqAt.RcAt.none_int _ _,cR.none_int _ _⟩
  ·cases r;obtain⟨t,rfl⟩:=r';exact⟨dh.none_str _ _,SeqAt.RcAt.none_str _ _,cR.none_str _ _⟩
  ·cases r;cases r';rw[show ∀a b:Bool,decide (D.bl a=D.bl b)=(a==b) from by intro a b;cases a <;> cases b <;> rfl];exact⟨dh.bool_bool _ _,SeqAt.RcAt.bool_bool _ _,cR.bool_bool _ _⟩
  ·obtain⟨t,rfl⟩:=r;cases r';exact⟨dh.int_none _ _,SeqAt.RcAt.int_none _ _,cR.int_none _ _⟩
  ·obtain⟨t,rfl⟩:=r;obtain⟨J,rfl⟩:=r';rw[show ∀a b:Int,decide (D.int a=D.int b)=(a==b) from by intro a b;rw[beq_dec];simp];exact⟨dh.int_int _ _ _ _,SeqAt.RcAt.int_int _ _ _ _,cR.int_int _ _ _ _⟩
  ·obtain⟨t,rfl⟩:=r;cases r';exact⟨dh.str_none _ _,SeqAt.RcAt.str_none _ _,cR.str_none _ _⟩
  ·obtain⟨t,rfl⟩:=r;obtain⟨J,rfl⟩:=r';rw[show ∀a b:Str,decide (D.str a=D.str b)=(a==b) from by intro a b;rw[beq_dec];simp];exact⟨iS _ _ _ _,SeqAt.RcAt.str_str _ _ _ _,cR.str_str _ _ _ _⟩
 |succ n B =>
  intro A d e x y u v hu h h' r r' o;cases d <;> cases e <;> first|(cases o;done)|skip
  ·exact B (by lia) h h' r r' (by cases n <;> rfl)
  ·exact B (by lia) h h' r r' (by cases n <;> rfl)
  ·exact B (by lia) h h' r r' (by cases n <;> rfl)
  ·unfold RepV at h;subst h;cases r;obtain⟨a,xs,rfl,t,l⟩:=(show RepV X.K M H (.tup _) y from h')
   cases r';obtain⟨us,O,pl,_⟩:=I.tuple t.sq;exact⟨dh.none_tuple pl (by lia),SeqAt.RcAt.none_tuple pl (by lia),cR.none_tuple pl (by lia)⟩
  ·exact B (by lia) h h' r r' (by cases n <;> rfl)
  ·exact B (by lia) h h' r r' (by cases n <;> rfl)
  ·exact B (by lia) h h' r r' (by cases n <;> rfl)
  ·exact B (by lia) h h' r r' (by cases n <;> rfl)
  ·exact B (by lia) h h' r r' (by cases n <;> rfl)
  ·unfold RepV at h';subst h';cases r';obtain⟨a,xs,rfl,t,l⟩:=(show RepV X.K M H (.tup _) x from h)
   cases r;obtain⟨us,O,pl,_⟩:=I.tuple t.sq;exact⟨dh.tuple_none pl (by lia),SeqAt.RcAt.tuple_none pl (by lia),cR.tuple_none pl (by lia)⟩
  ·rename_i ds es;have un:=λ{e:D}=>uniq (e:=e) I (n+1) h;have h0:=h;have G:=h';unfold RepV at h h';obtain⟨a,xs,rfl,t,l⟩:=h;obtain⟨b,ys,rfl,J,U⟩:=h';cases r;cases r';obtain⟨us,O,pl,_⟩:=I.tuple t.sq;obtain⟨vs,rv,L,_⟩:=I.tuple J.sq;have l1:=l.length;have l2:=U.length;have l3:=O.length;have l4:=rv.length;have it:=dJ0 (A:=A.in1) l U O rv o λq Z z Y o=>B (show A.units+1+n<cB by lia) q Z z Y o
   have ans:=cXm ds es us.toArray.size vs.toArray.size (by rw[aq];lia) (by rw[aq];lia)
   have h1:=SeqAt.RcAt.tuples pl L (show A.units<cB by lia) it
   have h2:=cR.tuples pl L (show A.units<cB by lia) it
   rw[ans] at h1 h2;rw[eZ1];refine⟨?_,h1,h2⟩
   by_cases j:a=b
   ·subst j;have e1:=un G o;cases e1;rw[decide_eq_true rfl];exact kb _
   ·exact kF j h1
  ·have un:=λ{e:D}=>uniq (e:=e) I (n+1) h;have G:=h';unfold RepV at h h';obtain⟨a,xs,rfl,t,l⟩:=h;obtain⟨b,ys,rfl,J,U⟩:=h';cases r;cases r';obtain⟨h1,h2⟩:=dJ1 (A:=A) (n:=n) I t.sq J.sq l U o hu λq Z z Y o=>B (show A.units+1+n<cB by lia) q Z z Y o
   rw[eZ2];refine⟨?_,h1,h2⟩
   by_cases j:a=b
   ·subst j;have e1:=un G o;cases e1;rw[decide_eq_true rfl];exact kb _
   ·exact kF j h1
def eqD(neg:Bool):R2D:=λd e S Q=>match d,e with
 |.ref a,e=>∃xs ys,S a=some (.lst xs)/\lsIs S e ys/\okEs 8 xs ys=true/\Q (.bl (if neg then !decide (xs=ys) else decide (xs=ys))) S
 |.lst xs,.ref a=>∃ys,S a=some (.lst ys)/\okEs 8 xs ys=true/\Q (.bl (if neg then !decide (xs=ys) else decide (xs=ys))) S
 |d,e=>okE 9 d e=true/\Q (.bl (if neg then !decide (d=e) else decide (d=e))) S
def rEqA(K:Fg)(neg:Bool):R2:=λx y H Q=>∃b,(∀{X:Cx}{pins:List (Addr×Obj)}{σ:St}{s:aj},Inv X pins σ H s->X.K=K->∀{u v:ae},RelV x u->RelV y v->∀A:bj,A.units+9<cB->SeqAt.RcAt A s u v b/\cR A s u v (!b))/\Q (.bl (if neg then !b else b)) H
theorem fQm{K:Fg}(hu:X.A.units+9<cB)(hK:X.K=K:=by rfl):OpR X (cy .Eq) (rEqA K false):=by
 intro pins s σ H x y v u Q I z j ⟨b,h,q⟩;exact(h I hK z j X.A hu).1 _ _ _ _ ⟨.bl b,H,I,rfl,q⟩
theorem fQn{K:Fg}(hu:X.A.units+9<cB)(hK:X.K=K:=by rfl):OpR X (cy .NotEq) (rEqA K true):=by
 intro pins s σ H x y v u Q I z j ⟨b,h,q⟩;exact(h I hK z j X.A hu).2 _ _ _ _ ⟨.bl (!b),H,I,rfl,q⟩
theorem fQo{K:Fg}{neg:Bool}:OpD K (rEqA K neg) (eqD neg):=by
 intro F S H d e x y Q QD r hd he h c;have lists:∀{xs ys:List D},lsIs S d xs->lsIs S e ys->okEs 8 xs ys=true->QD (.bl (if neg then !decide (xs=ys) else decide (xs=ys))) S->rEqA K neg x y H Q:=by
  intro xs ys Z Y o q;obtain⟨a,us,rfl,s1,U⟩:=lsIs.sl r hd Z;obtain⟨a2,us2,rfl,s2,p2⟩:=lsIs.sl r he Y;refine⟨_,λ{X pins σ s} I j u v ru rv A B=>?_,c.bl r q⟩;subst j;cases ru;cases rv;exact dJ1 I s1 s2 U p2 o B λq O z L o=>eq3 I 8 (show A.units+1+8<cB by lia) q O z L o
 have plain:okE 9 d e=true->QD (.bl (if neg then !decide (d=e) else decide (d=e))) S->rEqA K neg x y H Q:=by
  intro o q;refine⟨_,λ{X pins σ s} I j u v ru rv A B=>?_,c.bl r q⟩;subst j
  have:=eq3 I 9 B hd he ru rv o
  exact⟨this.rc,this.ne⟩
 cases d with
 |ref a=>obtain⟨xs,ys,h1,h2,J,G⟩:=h;exact lists h1 h2 J G
 |lst xs =>
  cases e with
  |ref a=>obtain⟨ys,h2,J,G⟩:=h;exact lists rfl h2 J G
  |_=>exact plain h.1 h.2
 |_=>exact plain h.1 h.2
mutual
def plain:D->Bool
 |.non=>true
 |.bl _=>true
 |.int _=>true
 |.str _=>true
 |.tup xs=>aZn xs
 |_=>false
def aZn:List D->Bool
 |[]=>true
 |x::xs=>plain x&&aZn xs
end
mutual
theorem cQn(I:Inv X pins σ H s):∀{d e:D}{v:V},plain d=true->plain e=true->RepV X.K M H d v->RepV X.K M H e v->d=e
 |.tup ds,e,v,p,p',h,h'=>by
  cases e with
  |tup es =>
   unfold RepV at h h';obtain⟨a,xs,rfl,t,l⟩:=h;obtain⟨b,ys,e1,j,q⟩:=h';cases e1
   have:=I.tuple_inj t.sq j.sq
   subst this;unfold plain at p p';rw[bXo I p p' l q]
  |lst _=>cases p'
  |ref _=>cases p'
  |ty _=>cases p'
  |_ =>
   unfold RepV at h h';obtain⟨a,xs,e1,_⟩:=h;rw[h'] at e1;cases e1
 |.non,e,v,p,p',h,h'=>by
  cases e <;> first|rfl|(cases p';done)|(unfold RepV at h h';rw[h] at h';cases h';done)|(unfold RepV at h h';obtain⟨a,xs,e1,_⟩:=h';rw[h] at e1;cases e1)
 |.bl _,e,v,p,p',h,h'=>by
  cases e <;> first|(cases p';done)|(unfold RepV at h h';rw[h] at h';cases h';done)|(unfold RepV at h h';rw[h] at h';cases h';rfl)|(unfold RepV at h h';obtain⟨a,xs,e1,_⟩:=h';rw[h] at e1;cases e1)
 |.int _,e,v,p,p',h,h'=>by
  cases e <;> first|(cases p';done)|(unfold RepV at h h';rw[h] at h';cases h';done)|(unfold RepV at h h';rw[h] at h';cases h';rfl)|(unfold RepV at h h';obtain⟨a,xs,e1,_⟩:=h';rw[h] at e1;cases e1)
 |.str _,e,v,p,p',h,h'=>by
  cases e <;> first|(cases p';done)|(unfold RepV at h h';rw[h] at h';cases h';done)|(unfold RepV at h h';rw[h] at h';cases h';rfl)|(unfold RepV at h h';obtain⟨a,xs,e1,_⟩:=h';rw[h] at e1;cases e1)
 |.ty _,e,v,p,p',h,h'=>by cases p
 |.ref _,e,v,p,p',h,h'=>by cases p
 |.lst _,e,v,p,p',h,h'=>by cases p
theorem bXo(I:Inv X pins σ H s):∀{ds es:List D}{vs:List V},aZn ds=true->aZn es=true->RepL X.K M H ds vs->RepL X.K M H es vs->ds=es
 |[],es,vs,p,q,l,j=>by
  have h1:=l.length;have h2:=j.length;rw[h1] at h2;exact(bZ h2.symm).symm
 |d::ds,[],vs,p,q,l,j=>by have h1:=l.length;have h2:=j.length;rw[h1] at h2;simp at h2
 |d::ds,e::es,vs,p,q,l,j=>by
  unfold RepL at l j;obtain⟨v,vs,rfl,r,l⟩:=l;obtain⟨G,z,e1,B,j⟩:=j;cases e1;simp only[aZn,aY] at p q;rw[cQn I p.1 q.1 r B,bXo I p.2 q.2 l j]
end
theorem aJ4:∀{ds:List D},aZn ds=true->∀d∈ds,plain d=true
 |[],_,d,h=>by cases h
 |x::ds,p,d,h=>by
  simp only[aZn,aY] at p;rcases aD.mp h with rfl|h
  ·exact p.1
  ·exact aJ4 p.2 d h
def rInA(K:Fg)(neg:Bool):R2:=λx y H Q=>∃p xs b,y=.ref p/\(SqL K H p xs\/SqT K H p xs) /\
 (∀{X:Cx}{pins:List (Addr×Obj)}{σ:St}{s:aj},Inv X pins σ H s->X.K=K->∀{v:ae}{us:List ae},RelV x v->Vals xs us->∀A:bj,A.units+9<cB->∃f:ae->Bool,(∀u∈us,dh A s u v (f u))/\us.any f=b)/\Q (.bl (if neg then !b else b)) H
theorem dJ2{K:Fg}(hu:X.A.units+10<cB)(hK:X.K=K:=by rfl):OpR X (cy .In) (rInA K false):=by
 intro pins s σ H x y v u Q I B ry h;obtain⟨p,xs,b,rfl,z,hf,q⟩:=h;cases ry;rw[<- hK] at z;rcases z with z|z
 ·obtain⟨j,r,pl,D⟩:=I.list z;obtain⟨f,f1,f2⟩:=hf I hK B r X.A.in1 (show X.A.units+1+9<cB by lia)
  refine SeqAt.in_listAt f pl.isList (λw hw=>f1 w (by simpa using hw)) ⟨.bl _,H,I,rfl,?_⟩
  rw[show j.toArray.any f=j.any f by simp,f2]
  exact q
 ·obtain⟨j,r,pl,D⟩:=I.tuple z;obtain⟨f,f1,f2⟩:=hf I hK B r X.A.in1 (show X.A.units+1+9<cB by lia)
  refine SeqAt.in_tupleAt f pl (λw hw=>f1 w (by simpa using hw)) ⟨.bl _,H,I,rfl,?_⟩
  rw[show j.toArray.any f=j.any f by simp,f2]
  exact q
theorem eZ5{K:Fg}(hu:X.A.units+10<cB)(hK:X.K=K:=by rfl):OpR X (cy .NotIn) (rInA K true):=by
 intro pins s σ H x y v u Q I B ry h;obtain⟨p,xs,b,rfl,z,hf,q⟩:=h;cases ry;rw[<- hK] at z;rcases z with z|z
 ·obtain⟨j,r,pl,D⟩:=I.list z;obtain⟨f,f1,f2⟩:=hf I hK B r X.A.in1 (show X.A.units+1+9<cB by lia)
  refine SeqAt.notIn_listAt f pl.isList (λw hw=>f1 w (by simpa using hw)) ⟨.bl _,H,I,rfl,?_⟩
  rw[show j.toArray.any f=j.any f by simp,f2]
  exact q
 ·obtain⟨j,r,pl,D⟩:=I.tuple z;obtain⟨f,f1,f2⟩:=hf I hK B r X.A.in1 (show X.A.units+1+9<cB by lia)
  refine SeqAt.notIn_tupleAt f pl (λw hw=>f1 w (by simpa using hw)) ⟨.bl _,H,I,rfl,?_⟩
  rw[show j.toArray.any f=j.any f by simp,f2]
  exact q
def inD(neg:Bool):R2D:=λd e S Q=>∃xs,sqIs S e xs/\aZn xs=true/\(xs.all λy=>okE 8 y d)=true/\Q (.bl (if neg then !decide (d∈xs) else decide (d∈xs))) S
theorem fQp(I:Inv X pins σ H s){d:D}{x:V}{v:ae}(rx:RelV x v)(hd:RepV X.K M H d x){A:bj}(hA:A.units+9<cB):∀{xs:List V}{us:List ae}{ds:List D},RepL X.K M H ds xs->Vals xs us->aZn ds=true->(ds.all λy=>okE 8 y d)=true ->
  ∃f:ae->Bool,(∀u∈us,dh A s u v (f u))/\us.any f=decide (d∈ds):=by
 classical
 intro xs us ds l r p o;have key:∀{y:V}{u:ae}{e:D},e∈ds->RepV X.K M H e y->RelV y u->decide (∃y e,e∈ds/\RepV X.K M H e y/\RelV y u/\e=d)=decide (e=d):=by
  intro y u e hm he j
  congr 1
  refine propext ⟨λ⟨y',Z,G,h1,h2,U⟩=>?_,λh=>⟨y,e,hm,he,j,h⟩⟩
  have:=h2.inj j
  subst this;rw[<- U];exact cQn I (aJ4 p e hm) (aJ4 p Z G) he h1
 refine⟨λu=>decide (∃y e,e∈ds/\RepV X.K M H e y/\RelV y u/\e=d),?_,?_⟩
 ·intro u O;obtain⟨i,hi,rfl⟩:=bh O;have h1:=r.length;have h2:=l.length;obtain⟨e,Y,re⟩:=l.get' (af (show i<xs.length by lia))
  obtain⟨u',eu,j⟩:=r.get (af (show i<xs.length by lia))
  rw[af hi] at eu;cases eu;have hm:e∈ds:=am Y;show dh A s us[i] v (decide (∃y e,e∈ds/\RepV X.K M H e y/\RelV y us[i]/\e=d));rw[key hm re j];exact(eq3 I 8 (by lia) re hd j rx (b7.mp o e hm)).eq
 ·have gen:∀{zs:List V}{ws:List ae}{es:List D},RepL X.K M H es zs->Vals zs ws->(∀e∈es,e∈ds)->ws.any (λu=>decide (∃y e,e∈ds/\RepV X.K M H e y/\RelV y u/\e=d))=decide (d∈es):=by
   intro zs ws es
   induction es generalizing zs ws with
   |nil =>
    intro l r _;unfold RepL at l;subst l;cases r;simp
   |cons e es L =>
    intro l r hm;unfold RepL at l;obtain⟨z,zs,rfl,B,J⟩:=l;cases r with
    |cons q t =>
     rw[jv,key (hm e ak) B q,L J t λe he=>hm e (ao _ he)]
     by_cases h:e=d
     ·simp[h]
     ·have h':¬ d=e:=λz=>h z.symm;simp[h,h']
  exact gen l r λ_ h=>h
theorem eZ6{K:Fg}{neg:Bool}:OpD K (rInA K neg) (inD neg):=by
 intro F S H d e x y Q QD r hd he ⟨ds,B,p,o,q⟩ c;obtain⟨a,xs,rfl,sq,l⟩:=B.sq r he;refine⟨a,xs,decide (d∈ds),rfl,sq,λ{X pins σ s} I D {v us} j z A G=>?_,c.bl r q⟩;subst D;exact fQp I j hd G l z p o
variable{K:Fg}{a b:Expr}{ta tb:ED}{pos:Pos}{k:Nat}
theorem lt10{n:Nat}{A:bj}(r:Room k A)(h:n<=64:=by decide):A.units+n<cB:=by have:=r.units;lia
theorem dZn(hr:Room k X.A)(ha:PD K X a ta)(hb:PD K X b tb)(hK:X.K=K:=by rfl):PTD K X (.Compare a [.Eq] [b] pos) (aXq (dOp (eqD false) ta tb)):=aJd (fQm (lt10 hr) hK) fQo ha hb (nomark _)
theorem cZt(hr:Room k X.A)(ha:PD K X a ta)(hb:PD K X b tb)(hK:X.K=K:=by rfl):PTD K X (.Compare a [.NotEq] [b] pos) (aXq (dOp (eqD true) ta tb)):=aJd (fQn (lt10 hr) hK) fQo ha hb (nomark _)
theorem e_in(hr:Room k X.A)(ha:PD K X a ta)(hb:PD K X b tb)(hm:eL .In b=false:=by rfl)(hK:X.K=K:=by rfl):PD K X (.Compare a [.In] [b] pos) (dOp (inD false) ta tb):=fXu (dJ2 (lt10 hr) hK) eZ6 ha hb hm
theorem fXx(hr:Room k X.A)(ha:PD K X a ta)(hb:PD K X b tb)(hm:eL .In b=false:=by rfl)(hK:X.K=K:=by rfl):PTD K X (.Compare a [.In] [b] pos) (aXq (dOp (inD false) ta tb)):=aJd (dJ2 (lt10 hr) hK) eZ6 ha hb hm
theorem fQq(hr:Room k X.A)(ha:PD K X a ta)(hb:PD K X b tb)(hm:eL .NotIn b=false:=by rfl)(hK:X.K=K:=by rfl):PTD K X (.Compare a [.NotIn] [b] pos) (aXq (dOp (inD true) ta tb)):=aJd (eZ5 (lt10 hr) hK) eZ6 ha hb hm
end
end L2
namespace HT
open PySem PySem.Spec PyProof.Rows
section
variable{prog:au}{w:aN}{A:bj}{E:ae->aj->Prop}{s:aj}
theorem tup_slice{t sl:Addr}{items:Array ae}{Q:ae->aj->Prop}(ht:i8 s.heap t items)(hTs:s.TypeIs (.ref sl) "slice")
    (h:∀ A,aE (aF prog w) A (fQ (.ref sl) (pure (items.size:Int))) (λr s'=>s'=s /\
      ((r.1=0 /\ r.2.1=1 /\ r.2.2=items.size /\ Q (.ref t) s) \/
       (¬ (r.1==0&&r.2.1==1&&r.2.2==items.size)=true/\sizeOk (.seq ((aI r.2.2).filterMap λ(k:Nat)=>items[(r.1+(k:Int)*r.2.1).toNat]?).toArray)/\Q (.ref s.heap.objs.size) {s with heap:=s.heap.push {cls:=.type "tuple",data:=.seq ((aI r.2.2).filterMap λ(k:Nat)=>items[(r.1+(k:Int)*r.2.1).toNat]?).toArray}}))) E s) :
    aE (aF prog w) A (jT (.ref t) (.ref sl)) Q E s:=by
  unfold jT
  try with_reducible refine bq ?_
  first|refine aa (ad ?_)|skip
  refine aa (wpAny_sequenceKey ht.typeIs (by decide) ?_)
  refine aa (cL (name:=bo "__getitem__") ht.typeIs cG
    (b6 cG ht.typeIs entry_tuple_getitem ?_ (args_tuple_getitem _ _)))
  show aE _ _ (fR (.ref t)>>=_) _ _ s;refine aa (tupleItemsOf_ ht (aa (gJ hTs ?_)));rw [if_pos (by decide)]
  refine aa (eB (h _) (λr s' ⟨e,q⟩=>?_) λ_ _ x=>x);subst e;obtain⟨lo,st,n⟩:=r;show aE _ _ (if (lo==0&&st==1&&n==items.size)=true then _ else _) _ _ _
  rcases q with⟨h1,h2,B,q⟩|⟨z,j,q⟩
  · have J:lo=0:=h1
    have G:st=1:=h2;have D:n=items.size:=B;rw [if_pos (by rw [J,G,D]; simp)]
    unfold cv.Tuple.tupleIsExact;refine aa (aa (gJ ht.typeIs (ad ?_)));rw [if_pos (by decide)]
    refine aa (dG ?_)
    first
      |exact ad ⟨_,rfl,ad q⟩
      |exact aa (ad ⟨_,rfl,ad q⟩)
      |exact aa (ad (ad ⟨_,rfl,ad q⟩))
  · rw [if_neg z]
    first
      |exact aa (m:=cF _) (bA (ad ⟨_,rfl,ad q⟩) j)
      |exact aa (m:=cF _) (bA (aa (ad (ad ⟨_,rfl,ad q⟩))) j)
      |exact aa (aa (m:=cF _) (bA (ad (ad ⟨_,rfl,ad q⟩)) j))
      |exact aa (aa (m:=cF _) (bA (ad ⟨_,rfl,ad q⟩) j))
end
end HT
namespace L2
open PySem PySem.Spec PyProof.Rows
section
variable{X:Cx}{K:Fg}
def rSlW(K:Fg):V->Option Int->Option Int->Hp->VK->Prop:=λx lo hi H Q=>∃a xs,x=.ref a/\SqT K H a xs/\HT.sIx xs.length 0 lo=0/\HT.sIx xs.length xs.length hi=xs.length/\Q (.ref a) H
theorem eZ7(hK:X.K=K:=by rfl):SlR X (rSlW K):=by
 subst hK;intro pins s σ H x v Y U lo hi sl Q I rx G pl pu h;obtain⟨a,xs,rfl,J,h0,L,q⟩:=h;cases rx;obtain⟨j,r,D,Z⟩:=I.tuple J;have hlen:j.toArray.size=xs.length:=by rw[aq];exact r.length.symm
 obtain⟨os,z,B,O⟩:=id G;refine⟨"tuple",_,cG.lookup,D.typeIs,HT.tup_slice D ⟨os,z,B⟩ λA=>HT.sliceApplied_gen G pl pu ⟨rfl,.inl ⟨?_,rfl,?_,.ref a,H,I,rfl,q⟩⟩⟩
 ·show((HT.sIx j.toArray.size 0 lo:Nat):Int)=0;rw[hlen,h0];rfl
 ·show HT.sIx j.toArray.size j.toArray.size hi-HT.sIx j.toArray.size 0 lo=j.toArray.size;rw[hlen,h0,L];rfl
end
end L2
set_option maxHeartbeats 1000000
namespace L2
open PySem PySem.Spec PyProof.Rows
section
variable{X:Cx}{K:Fg}{a b:Expr}{ta tb:ED}{pos:Pos}{k:Nat}
def ltD:R2D:=λd e S Q=>match d,e with
 |.int i,.int j=>Q (.bl (decide (i<j))) S
 |.str x,.str y=>Q (.bl (HT.ltS x y)) S
 |.tup xs,.tup ys=>∃as bs,xs=as.map D.str/\ys=bs.map D.str/\Q (.bl (HT.lexS as bs)) S
 |_,_=>False
def rLtA(K:Fg):R2:=λx y H Q=>rI0 (λi j=>.bl (decide (i<j))) x y H Q\/(∃i j,x=.str i/\y=.str j/\Q (.bl (decide (i.cps.toList<j.cps.toList))) H)\/rLtS K x y H Q
theorem fQr(hu:X.A.units<cB)(hK:X.K=K:=by rfl):OpR X (cy .Lt) (rLtA K):=op_lt.or (op_lt_str.or (eQp hu hK))
theorem aJ5{M:Am}{H:Hp}:∀{as:List Str}{xs:List V},RepL K M H (as.map D.str) xs->bi (dS H) xs as
 |[],xs,h=>by rw[fY] at h;unfold RepL at h;subst h;exact .nil
 |a::as,xs,h=>by
  rw[aU] at h;unfold RepL at h;obtain⟨v,vs,rfl,r,l⟩:=h;unfold RepV at r;exact .cons r (aJ5 l)
theorem cJb{M:Am}{H:Hp}:∀{as:List Str}{xs:List V},bi (dS H) xs as->RepL K M H (as.map D.str) xs
 |_,_,.nil=>RepL.nil
 |_,_,.cons r l=>RepL.cons (by unfold RepV;exact r) (cJb l)
theorem bJo{S:Sto}{F:Am}{H:Hp}{as:List Str}{v:V}(h:RepV K (mt S F) H (.tup (as.map D.str)) v):dT K dS H v as:=by
 obtain⟨a,xs,rfl,t,l⟩:=tup.st h;exact⟨a,xs,rfl,t,aJ5 l⟩
theorem fXy:OpD K (rLtA K) ltD:=by
 intro F S H d e x y Q QD r hd he h c;cases d with
 |int i =>
  cases e with
  |int j=>rw[rint hd,rint he];exact .inl ⟨i,j,rfl,rfl,c.bl r h⟩
  |_=>exact h.elim
 |str i =>
  cases e with
  |str j=>rw[rstr hd,rstr he];exact .inr (.inl ⟨i,j,rfl,rfl,c.bl r h⟩)
  |_=>exact h.elim
 |tup xs =>
  cases e with
  |tup ys =>
   obtain⟨as,bs,rfl,rfl,q⟩:=h;exact .inr (.inr ⟨as,bs,bJo hd,bJo he,c.bl r q⟩)
  |_=>exact h.elim
 |_=>exact h.elim
theorem dZo(hr:Room k X.A)(ha:PD K X a ta)(hb:PD K X b tb)(hK:X.K=K:=by rfl):PTD K X (.Compare a [.Lt] [b] pos) (aXq (dOp ltD ta tb)):=aJd (fQr hr.units0 hK) fXy ha hb (nomark _)
abbrev gtD:R2D:=iiD0 λi j=>.bl (decide (j<i))
abbrev geD:R2D:=iiD0 λi j=>.bl (decide (j<=i))
theorem fQs(hr:Room k X.A)(ha:PD K X a ta)(hb:PD K X b tb):PTD K X (.Compare a [.Gt] [b] pos) (aXq (dOp gtD ta tb)):=aJd fXj dZk ha hb (nomark _)
theorem fQt(hr:Room k X.A)(ha:PD K X a ta)(hb:PD K X b tb):PTD K X (.Compare a [.GtE] [b] pos) (aXq (dOp geD ta tb)):=aJd fXk dZk ha hb (nomark _)
structure PWD(K:Fg)(X:Cx)(e:Expr)(t:TD):Prop where
 o:PW X e (upT K t)
def dAnd(t u:TD):TD:=fun Γ S Q=>t Γ S λc S1=>if c=true then u Γ S1 Q else Q false S1
def dOr(t u:TD):TD:=fun Γ S Q=>t Γ S λc S1=>if c=true then Q true S1 else u Γ S1 Q
def dNot(t:TD):TD:=fun Γ S Q=>t Γ S λc S1=>Q (!c) S1
section
variable{tA tB':TD}{rest:List Expr}
theorem PWD.pt{e:Expr}{t:TD}(h:PWD K X e t):PTD K X e t:=⟨PW.pt h.o⟩
theorem PWD.of{e:Expr}{te:TT}{t:TD}(h:PW X e te)(i:∀σ H Q,upT K t σ H Q->te σ H Q):PWD K X e t:=⟨λj pins s σ H Q I q=>h j pins s σ H Q I (i σ H Q q)⟩
theorem cJc(ha:PTD K X a tA):PWD K X (.BoolOp .And [a] pos) tA:=⟨dJt ha.o⟩
theorem dJ3(ha:PTD K X a tA):PWD K X (.BoolOp .Or [a] pos) tA:=⟨eXz ha.o⟩
theorem dJ4(ha:PTD K X a tA)(hb:PWD K X (.BoolOp .And (b::rest) pos) tB'):PWD K X (.BoolOp .And (a::b::rest) pos) (dAnd tA tB'):=.of (eJ0 ha.o hb.o) fun σ H Q G=>G.el λF S Γ QD r g q c =>
 ⟨F,S,Γ,_,r,g,q,λz H1 O j B D=>by
  cases z with
  |true=>exact⟨F,O,Γ,QD,B,g.ext j,D,λz U L J=>c z U L (j.trans J)⟩
  |false=>exact c _ _ _ j B D⟩
theorem fQu(ha:PTD K X a tA)(hb:PWD K X (.BoolOp .Or (b::rest) pos) tB'):PWD K X (.BoolOp .Or (a::b::rest) pos) (dOr tA tB'):=.of (fXa ha.o hb.o) fun σ H Q G=>G.el λF S Γ QD r g q c =>
 ⟨F,S,Γ,_,r,g,q,λz H1 O j B D=>by
  cases z with
  |false=>exact⟨F,O,Γ,QD,B,g.ext j,D,λz U L J=>c z U L (j.trans J)⟩
  |true=>exact c _ _ _ j B D⟩
theorem bXp(ha:PTD K X a tA):PTD K X (.UnaryOp .Not a pos) (dNot tA):=.of (eJ1 ha.o) fun σ H Q j=>j.el λF S Γ QD r g q c=>⟨F,S,Γ,_,r,g,q,λz H1 J B D G=>c _ _ _ B D G⟩
def dIf(t:TD)(ta tb:ED):ED:=fun Γ S Q=>t Γ S λc S1=>if c=true then ta Γ S1 Q else tb Γ S1 Q
theorem eZ8{c:Expr}(hc:PTD K X c tA)(ha:PD K X a ta)(hb:PD K X b tb):PD K X (.IfExp c a b pos) (dIf tA ta tb):=.of (dQo hc.o ha.o hb.o) fun σ H Q U=>U.el λF S Γ QD r g q c =>
 ⟨F,S,Γ,_,r,g,q,λz H1 O j J L=>by
  cases z with
  |true=>exact⟨F,O,Γ,QD,J,g.ext j,L,λv z G D B=>c v z G D (j.trans B)⟩
  |false=>exact⟨F,O,Γ,QD,J,g.ext j,L,λv z G D B=>c v z G D (j.trans B)⟩⟩
end
def truD(S:Sto)(d:D)(k:Bool->Prop):Prop:=match d with
 |.non=>k false
 |.bl b=>k b
 |.int i=>k (i !=0)
 |.str x=>x.length<=sizeLine/\k ((x.length:Int) !=0)
 |.tup xs=>k (!xs.isEmpty)
 |.lst xs=>k (!xs.isEmpty)
 |.ref a=>∃xs,S a=some (.lst xs)/\k (!xs.isEmpty)
 |.ty _=>False
def dTru(ta:ED):TD:=fun Γ S Q=>ta Γ S λd S1=>truD S1 d λb=>Q b S1
theorem cJd{M:Am}{H:Hp}{ds:List D}{xs:List V}(l:RepL K M H ds xs):(!xs.isEmpty)=!ds.isEmpty:=by
 have:=l.length
 cases ds <;> cases xs <;> first|rfl|simp at this
theorem aXr(ha:PD K X a ta)(he:∀whole,isTrue a X.env whole=(do let v <- whole;fX a.pos;fW [v] (truthy v)):=by intro _;rfl)(hK:X.K=K:=by rfl):PTD K X a (dTru ta):=.of (cJ2 (K:=K) ha.o he hK) fun σ H Q G=>G.el λF S Γ QD r g q c =>
 ⟨F,S,Γ,_,r,g,q,λv d H1 D B z v1 j=>by
  cases d with
  |non=>rw[rnon v1];exact⟨false,rfl,c _ _ _ B z j⟩
  |bl b=>rw[rbl v1];exact⟨b,rfl,c _ _ _ B z j⟩
  |int b=>rw[rint v1];exact⟨_,rfl,c _ _ _ B z j⟩
  |str b=>rw[rstr v1];exact⟨_,⟨j.1,rfl⟩,c _ _ _ B z j.2⟩
  |ty b=>exact j.elim
  |tup xs =>
   obtain⟨p,us,rfl,t,l⟩:=tup.st v1;exact⟨_,.inr (.inl ⟨us,t,rfl⟩),c _ _ _ B z (by rw[cJd l];exact j)⟩
  |lst xs =>
   obtain⟨p,us,rfl,t,l⟩:=lsIs.sl z v1 (show lsIs D (.lst xs) xs from rfl)
   exact⟨_,.inl ⟨us,t,rfl⟩,c _ _ _ B z (by rw[cJd l];exact j)⟩
  |ref p =>
   obtain⟨xs,e,j⟩:=j;obtain⟨p,us,rfl,t,l⟩:=lsIs.sl z v1 (show lsIs D (.ref p) xs from e)
   exact⟨_,.inl ⟨us,t,rfl⟩,c _ _ _ B z (by rw[cJd l];exact j)⟩⟩
section
variable{e:Expr}{t:AD}{p:Pos}
def lenD:RCD:=λds S Q=>match ds with
 |[.str x]=>x.length<=sizeLine/\Q (.int x.length) S
 |[d]=>∃xs,sqIs S d xs/\Q (.int xs.length) S
 |_=>False
theorem cJe(hK:X.K=K:=by rfl):CallR X (.builtin "len") (λxs H Q=>∃x n,xs=[x]/\LenV K x H n/\Q (.int n) H):=hK▸dQu
theorem fQv:bJm K (λxs H Q=>∃x n,xs=[x]/\LenV K x H n/\Q (.int n) H) lenD:=by
 intro F S H ds vs Q QD r l h c
 match ds,h with
 |[d],h =>
  obtain⟨v,rfl,j⟩:=l.one;have seq:(∃xs,sqIs S d xs/\QD (.int xs.length) S)->∃x n,[v]=[x]/\LenV K x H n/\Q (.int n) H:=by
   rintro⟨xs,h1,q⟩;obtain⟨a,us,rfl,sq,l⟩:=h1.sq r j;refine⟨_,xs.length,rfl,?_,c.int r q⟩;rcases sq with sq|sq
   ·exact .inl ⟨us,sq,l.length.symm⟩
   ·exact .inr ⟨us,sq,l.length.symm⟩
  cases d with
  |str x=>rw[rstr j];exact⟨_,x.length,rfl,⟨h.1,rfl⟩,c.int r h.2⟩
  |_=>exact seq h
 |[],h=>exact h.elim
 |d::_::_,h=>cases d <;> exact h.elim
theorem bJp(hg:Gl X "len")(hm:X.mg "len"=none)(ha:PAD K X [e] t)(hK:X.K=K:=by rfl)(he:aC [e] X.env=(false,eval e X.env)::aC [] X.env:=by rfl)(hpl:(cO pos (aC [] X.env)).any (·.1)=false:=by rfl):PD K X (.Call (.Name "len" p) [e] [] pos) (dCB lenD t):=aJ3 (cJe hK) fQv hg hm eJn ha (by decide) (by decide) he hpl
def tupD:RCD:=λds S Q=>match ds with
 |[d]=>∃xs,sqIs S d xs/\Q (.tup xs) S
 |_=>False
theorem fQw:bJm K (λxs H Q=>∃p ys,xs=[.ref p]/\((SqL K H p ys/\∀l,H l=none->Q (.ref l) (upd H l (.tup ys)))\/(SqT K H p ys/\Q (.ref p) H))) tupD:=by
 intro F S H ds vs Q QD r l h c
 match ds,h with
 |[d],⟨xs,h1,q⟩ =>
  obtain⟨v,rfl,j⟩:=l.one;cases d with
  |tup ys =>
   cases h1;obtain⟨a,us,rfl,sq,l⟩:=tup.st j;exact⟨a,us,rfl,.inr ⟨sq,c.here r j q⟩⟩
  |lst ys =>
   obtain⟨a,us,rfl,sq,l⟩:=lsIs.sl r j (show lsIs S (.lst ys) xs from h1)
   exact⟨a,us,rfl,.inl ⟨sq,λp z=>c.tup r z l q⟩⟩
  |ref y =>
   obtain⟨a,us,rfl,sq,l⟩:=lsIs.sl r j (show lsIs S (.ref y) xs from h1)
   exact⟨a,us,rfl,.inl ⟨sq,λp z=>c.tup r z l q⟩⟩
  |_=>exact h1.elim
theorem aZ2(hg:Gl X "tuple")(hm:X.mg "tuple"=none)(ha:PAD K X [e] t)(hK:X.K=K:=by rfl)(he:aC [e] X.env=(false,eval e X.env)::aC [] X.env:=by rfl)(hpl:(cO pos (aC [] X.env)).any (·.1)=false:=by rfl):PD K X (.Call (.Name "tuple" p) [e] [] pos) (dCB tupD t):=dZm (bJg hK) fQw hg hm dZ2 ha (by decide) (by decide) he hpl
theorem cQo{M:Am}{H:Hp}:∀{bs:List Bool}{xs:List V},RepL K M H (bs.map D.bl) xs->bi (dB H) xs bs
 |[],xs,h=>by rw[fY] at h;unfold RepL at h;subst h;exact .nil
 |a::as,xs,h=>by
  rw[aU] at h;unfold RepL at h;obtain⟨v,vs,rfl,r,l⟩:=h;unfold RepV at r;exact .cons r (cQo l)
def quD(g:List Bool->Bool):RCD:=λds S Q=>match ds with
 |[d]=>∃bs,lsIs S d (bs.map D.bl)/\Q (.bl (g bs)) S
 |_=>False
theorem fQx{g:List Bool->Bool}:bJm K (λxs H Q=>∃x bs,xs=[x]/\dL K dB H x bs/\Q (.bl (g bs)) H) (quD g):=by
 intro F S H ds vs Q QD r l h c
 match ds,h with
 |[d],⟨bs,h1,q⟩ =>
  obtain⟨v,rfl,j⟩:=l.one;obtain⟨a,us,rfl,sq,l⟩:=lsIs.sl r j h1;exact⟨_,bs,rfl,⟨a,us,rfl,sq,cQo l⟩,c.bl r q⟩
theorem fXz(hg:Gl X "all")(hm:X.mg "all"=none)(ha:PAD K X [e] t)(hK:X.K=K:=by rfl)(hc:X.calm=true:=by rfl)(he:aC [e] X.env=(false,eval e X.env)::aC [] X.env:=by rfl)(hpl:(cO pos (aC [] X.env)).any (·.1)=false:=by rfl):PD K X (.Call (.Name "all" p) [e] [] pos) (dCB (quD λbs=>bs.all id) t):=aJ3 (cJ0 hK hc) fQx hg hm eJp ha (by decide) (by decide) he hpl
theorem fJ0(hg:Gl X "any")(hm:X.mg "any"=none)(ha:PAD K X [e] t)(hK:X.K=K:=by rfl)(hc:X.calm=true:=by rfl)(he:aC [e] X.env=(false,eval e X.env)::aC [] X.env:=by rfl)(hpl:(cO pos (aC [] X.env)).any (·.1)=false:=by rfl):PD K X (.Call (.Name "any" p) [e] [] pos) (dCB (quD λbs=>bs.any id) t):=aJ3 (cJ1 hK hc) fQx hg hm eJq ha (by decide) (by decide) he hpl
end
def ixD:R2D:=λd e S Q=>match d,e with
 |.str z,.int i=>z.length<=sizeLine/\∃c,atI z.cps.toList i=some c/\Q (.str ⟨#[c]⟩) S
 |d,.int i=>∃xs v,sqIs S d xs/\atI xs i=some v/\Q v S
 |_,_=>False
theorem fJ1{M:Am}{H:Hp}{ds:List D}{xs:List V}(l:RepL K M H ds xs){i:Int}{d:D}(h:atI ds i=some d):∃v,atI xs i=some v/\RepV K M H d v:=by
 unfold atI at h ⊢;rw[l.length];cases hi:ixN ds.length i with
 |none=>rw[hi] at h;cases h
 |some j=>rw[hi] at h;exact l.get h
theorem fJ2:OpD K (rIx K) ixD:=by
 intro F S H d e x y Q QD r hd he h c;have seq:∀i,e=.int i->(∃xs v,sqIs S d xs/\atI xs i=some v/\QD v S)->rIx K x y H Q:=by
  rintro i rfl ⟨xs,v,h1,h2,q⟩;obtain⟨a,us,rfl,sq,l⟩:=h1.sq r hd;obtain⟨u,B,j⟩:=fJ1 l h2;rw[rint he];rcases sq with sq|sq
  ·exact .inl ⟨a,us,i,u,rfl,rfl,sq,B,c.here r j q⟩
  ·exact .inr (.inl ⟨a,us,i,u,rfl,rfl,sq,B,c.here r j q⟩)
 cases e with
 |int i =>
  cases d with
  |str z =>
   obtain⟨h1,w,h2,q⟩:=h;rw[rstr hd,rint he];exact .inr (.inr ⟨z,i,w,rfl,rfl,h1,h2,c.str r q⟩)
  |_=>exact seq i rfl h
 |_=>cases d <;> exact h.elim
theorem eZ9(hK:X.K=K:=by rfl):IxR X (rIx K):=hK▸eJl
theorem e_ix(ha:PD K X a ta)(hb:PD K X b tb)(hs:PlainIx b:=by exact λ_ _=>rfl)(hK:X.K=K:=by rfl):PD K X (.Subscript a b pos) (dOp ixD ta tb):=.of (pe_ix (eZ9 hK) ha.o hb.o hs) (dZj fJ2)
abbrev OD:=Gm->Sto->(Option Int->Sto->Prop)->Prop
def upO(K:Fg)(t:OD):TO:=fun σ H Q=>∃F S Γ QD,Rp K F S H/\RepG K (mt S F) H Γ σ/\t Γ S QD/\∀o H' S',Ext S H S' H'->Rp K F S' H'->QD o S'->Q o H'
theorem upO.el{K:Fg}{t:OD}{σ:St}{H:Hp}{Q:Option Int->Hp->Prop}{p:Prop}(h:upO K t σ H Q)(k:∀F S Γ QD,Rp K F S H->RepG K (mt S F) H Γ σ->t Γ S QD->(∀o H' S',Ext S H S' H'->Rp K F S' H'->QD o S'->Q o H')->p):p:=by
 obtain⟨F,S,Γ,QD,h0,h1,h2,j⟩:=h;exact k F S Γ QD h0 h1 h2 j
structure POD(K:Fg)(X:Cx)(e:Option Expr)(t:OD):Prop where
 o:PO X e (upO K t)
def eZa:OD:=λ_ S Q=>Q none S
def fJ3(t:ED):OD:=fun Γ S Q=>t Γ S λd S1=>∃i,d=.int i/\Q (some i) S1
theorem aX1:POD K X none eZa:=⟨λpins s σ H Q I j=>j.el λF S Γ QD r g q c=>eQ4 pins s σ H Q I (c none H S (Ext.refl _ _) r q)⟩
theorem aQz(h:PD K X a ta):POD K X (some a) (fJ3 ta):=⟨λpins s σ H Q I z=>z.el λF S Γ QD r g q c=>eQ5 h.o pins s σ H Q I ⟨F,S,Γ,_,r,g,q,λv d H1 J B D v1 j=>by
 obtain⟨i,e,G⟩:=j;subst e;exact⟨i,rint v1,c _ _ _ B D G⟩⟩⟩
def cutD(xs:List D)(lo hi:Option Int):List D:=(xs.drop (HT.sIx xs.length 0 lo)).take (HT.sIx xs.length xs.length hi-HT.sIx xs.length 0 lo)
def slD(b:Bool)(d:D)(lo hi:Option Int)(S:Sto)(Q:DK):Prop:=match d with
 |.str z=>z.length<=1000000/\Q (.str (cutS z lo hi)) S
 |.tup xs=>Q (.tup (cutD xs lo hi)) S
 |d=>∃xs,lsIs S d xs/\newL b (cutD xs lo hi) S Q
def rSlA(K:Fg):V->Option Int->Option Int->Hp->VK->Prop:=λx lo hi H Q=>rSlS x lo hi H Q\/rSlT K x lo hi H Q\/rSlW K x lo hi H Q\/rSlL K x lo hi H Q
theorem sl_A(hK:X.K=K:=by rfl):SlR X (rSlA K):=sl_str.or ((eQo hK).or ((eZ7 hK).or (dZd hK)))
theorem cQp(xs:List D){lo hi:Option Int}(h0:HT.sIx xs.length 0 lo=0)(h1:HT.sIx xs.length xs.length hi=xs.length):cutD xs lo hi=xs:=by unfold cutD;rw[h0,h1];simp
theorem dJ5{M:Am}{H:Hp}{ds:List D}{xs:List V}(l:RepL K M H ds xs)(lo hi:Option Int):RepL K M H (cutD ds lo hi) (cutV xs lo hi):=by
 unfold cutD cutV;rw[l.length];exact(l.drop _).take _
theorem sd_A{b:Bool}:∀F S H d x lo hi Q QD,Rp K F S H->RepV K (mt S F) H d x->slD b d lo hi S QD->Cn K F S H QD Q->rSlA K x lo hi H Q:=by
 intro F S H d x lo hi Q QD r hd h c;have lists:(∃xs,lsIs S d xs/\newL b (cutD xs lo hi) S QD)->rSlA K x lo hi H Q:=by
  rintro⟨xs,D,q⟩;obtain⟨a,us,rfl,s1,j⟩:=lsIs.sl r hd D;exact .inr (.inr (.inr ⟨a,us,rfl,s1,λp B=>c.new r B (dJ5 j lo hi) q⟩))
 cases d with
 |str z=>rw[rstr hd];exact .inl ⟨z,rfl,h.1,c.str r h.2⟩
 |tup xs =>
  obtain⟨a,us,rfl,s1,j⟩:=tup.st hd
  by_cases hw:HT.sIx us.length 0 lo=0/\HT.sIx us.length us.length hi=us.length
  ·refine .inr (.inr (.inl ⟨a,us,rfl,s1,hw.1,hw.2,c.here r hd ?_⟩));rw[j.length] at hw;have h':QD (.tup (cutD xs lo hi)) S:=h;rwa [cQp xs hw.1 hw.2] at h'
  ·exact .inr (.inl ⟨a,us,rfl,s1,hw,λp B=>c.tup r B (dJ5 j lo hi) h⟩)
 |_=>exact lists h
def dSl(b:Bool)(te:ED)(tl th:OD):ED:=fun Γ S Q=>te Γ S λd S1=>tl Γ S1 λlo S2=>th Γ S2 λhi S3=>slD b d lo hi S3 Q
theorem e_sl{b:Bool}{e:Expr}{te:ED}{lo hi:Option Expr}{tl th:OD}{p2 pos:Pos}(he:PD K X e te)(hl:POD K X lo tl)(hu:POD K X hi th)(hK:X.K=K:=by rfl):PD K X (.Subscript e (.Slice lo hi none p2) pos) (dSl b te tl th):=.of (dQw (sl_A hK) he.o hl.o hu.o) fun σ H Q D=>D.el λF S Γ QD r g q c =>
 ⟨F,S,Γ,_,r,g,q,λv d H1 S1 z L v1 Y=>⟨F,S1,Γ,_,L,g.ext z,Y,λl H2 S2 j J U=>⟨F,S2,Γ,_,J,g.ext (z.trans j),U,λu H3 Z B G O=>sd_A F Z H3 d v l u Q QD G (v1.ext (j.trans B)) O (Cn.shift c (z.trans (j.trans B)))⟩⟩⟩
end
end L2
set_option maxHeartbeats 4000000
namespace L2
open PySem PySem.Spec PyProof.Rows
section
variable{X:Cx}{K:Fg}{a b:Expr}{ta tb:ED}{pos:Pos}{k:Nat}
abbrev GD:=D->Gm->Sto->(Gm->Sto->Prop)->Prop
abbrev GsD:=List D->Gm->Sto->(Gm->Sto->Prop)->Prop
def upG(K:Fg)(t:GD):TG:=λv σ H Q=>∃F S Γ d QD,Rp K F S H/\RepG K (mt S F) H Γ σ/\RepV K (mt S F) H d v/\t d Γ S QD/\∀Γ' S' σ' H',Ext S H S' H'->Rp K F S' H'->RepG K (mt S' F) H' Γ' σ'->QD Γ' S'->Q σ' H'
theorem upG.el{K:Fg}{t:GD}{v:V}{σ:St}{H:Hp}{Q:St->Hp->Prop}{p:Prop}(h:upG K t v σ H Q)(k:∀F S Γ d QD,Rp K F S H->RepG K (mt S F) H Γ σ->RepV K (mt S F) H d v->t d Γ S QD->(∀Γ' S' σ' H',Ext S H S' H'->Rp K F S' H'->RepG K (mt S' F) H' Γ' σ'->QD Γ' S'->Q σ' H')->p):p:=by
 obtain⟨F,S,Γ,d,QD,h0,h1,h2,q,j⟩:=h;exact k F S Γ d QD h0 h1 h2 q j
def upGs(K:Fg)(t:GsD):TGs:=λvs σ H Q=>∃F S Γ ds QD,Rp K F S H/\RepG K (mt S F) H Γ σ/\RepL K (mt S F) H ds vs/\t ds Γ S QD/\∀Γ' S' σ' H',Ext S H S' H'->Rp K F S' H'->RepG K (mt S' F) H' Γ' σ'->QD Γ' S'->Q σ' H'
theorem upGs.el{K:Fg}{t:GsD}{vs:List V}{σ:St}{H:Hp}{Q:St->Hp->Prop}{p:Prop}(h:upGs K t vs σ H Q)(k:∀F S Γ ds QD,Rp K F S H->RepG K (mt S F) H Γ σ->RepL K (mt S F) H ds vs->t ds Γ S QD->(∀Γ' S' σ' H',Ext S H S' H'->Rp K F S' H'->RepG K (mt S' F) H' Γ' σ'->QD Γ' S'->Q σ' H')->p):p:=by
 obtain⟨F,S,Γ,ds,QD,h0,h1,h2,q,j⟩:=h;exact k F S Γ ds QD h0 h1 h2 q j
structure PGD(K:Fg)(X:Cx)(e:Expr)(t:GD):Prop where
 o:PG X e (upG K t)
structure PGsD(K:Fg)(X:Cx)(es:List Expr)(t:GsD):Prop where
 o:PGs X es (upGs K t)
theorem PGD.of{e:Expr}{te:TG}{t:GD}(h:PG X e te)(i:∀v σ H Q,upG K t v σ H Q->te v σ H Q):PGD K X e t:=⟨λpins s σ H v u Q I r q=>h pins s σ H v u Q I r (i v σ H Q q)⟩
theorem PGsD.of{e:List Expr}{te:TGs}{t:GsD}(h:PGs X e te)(i:∀v σ H Q,upGs K t v σ H Q->te v σ H Q):PGsD K X e t:=⟨λpins s σ H v u Q I r q=>h pins s σ H v u Q I r (i v σ H Q q)⟩
def aQq(i:Nat):GD:=λd Γ S Q=>Q (Γ.set i (some d)) S
theorem aQk{i:Nat}{x:Str}(hN:X.N.Nodup)(hi:X.N[i]?=some x)(hx:Loc X.env.scope x)(hf:X.fn x=true\/X.env.scope.names.lookup x=some .local:=by first|exact .inl rfl|exact .inr rfl|assumption):PGD K X (.Name x pos) (aQq i) :=
 .of (aQd hN hi hx hf) λv σ H Q j=>j.el λF S Γ d QD r g z q c=>c _ S _ H (Ext.refl _ _) r (g.set z i) q
def cZu:GsD:=λds Γ S Q=>ds=[]/\Q Γ S
def aX2(t:GD)(u:GsD):GsD:=λds Γ S Q=>match ds with
 |[]=>False
 |d::r=>t d Γ S fun Γ' S'=>u r Γ' S' Q
def cZv(n:Nat)(t:GsD):GD:=λd Γ S Q=>match d with
 |.tup ds=>ds.length=n/\t ds Γ S Q
 |_=>False
theorem bQ7:PGsD K X [] cZu:=.of bZ5 λv σ H Q j=>by
 obtain⟨F,S,Γ,ds,QD,r,g,l,⟨e,q⟩,c⟩:=j;subst e;unfold RepL at l;exact⟨l,c _ S _ H (Ext.refl _ _) r g q⟩
theorem aQv{e:Expr}{es:List Expr}{t:GD}{u:GsD}(h1:PGD K X e t)(h2:PGsD K X es u)(ha:(dj (e::es) X.env).map (·.2)=jn e X.env::(dj es X.env).map (·.2):=by rfl):PGsD K X (e::es) (aX2 t u) :=
 .of (aZr h1.o h2.o ha) λvs σ H Q z=>z.el λF S Γ ds QD r g l q c=>by
  cases ds with
  |nil=>exact q.elim
  |cons d ds =>
   unfold RepL at l;obtain⟨v,vs,rfl,D,l⟩:=l;exact⟨v,vs,rfl,F,S,Γ,d,_,r,g,D,q,fun Γ1 O σ1 H1 j G g1 J=>⟨F,O,Γ1,ds,_,G,g1,l.ext j,J,fun Γ2 L σ2 H2 B=>c Γ2 L σ2 H2 (j.trans B)⟩⟩
theorem cQq{es:List Expr}{kk:Nat}{t:GsD}{n:Nat}(hc:X.calm=true)(h:PGsD K X es t)(hK:X.K=K:=by rfl)
  (hn:(dj es X.env).length=n:=by rfl) (hst:(dj es X.env).findIdx? (·.1)=none:=by rfl):PGD K X (.Tuple es kk pos) (cZv n t) :=
 .of (cQ6 hc h.o hn hst) λv σ H Q j=>j.el λF S Γ d QD r g z q c=>by
  cases d with
  |tup ds =>
   obtain⟨p,us,rfl,sq,l⟩:=tup.st z;exact⟨p,us,rfl,by rw[hK];exact sq,by rw[l.length];exact q.1,F,S,Γ,ds,_,r,g,l,q.2,c⟩
  |_=>exact q.elim
def setD(o i v:D)(S:Sto)(Q:Sto->Prop):Prop:=match o,i with
 |.ref p,.int k=>∃xs j,S p=some (.lst xs)/\ixN xs.length k=some j/\Q (supd S p (.lst (xs.set j v)))
 |_,_=>False
def gdSub(to ti:ED):GD:=λv Γ S Q=>to Γ S λo S1=>ti Γ S1 λi S2=>setD o i v S2 λS3=>Q Γ S3
theorem dJ6{o i:Expr}{to ti:ED}(ho:PD K X o to)(hi:PD K X i ti)
  (ha:∀ v,jn (.Subscript o i pos) X.env v=(do
   let ov <- fW [v] (eval o X.env)
   let iv <- fW [v,ov] (eval i X.env)
   fX pos
   fW [v,ov,iv] (setItem ov iv v)
   release [v,ov,iv] []):=by intro _;rfl):PGD K X (.Subscript o i pos) (gdSub to ti) :=
 .of (eJ3 ho.o hi.o dQy ha) λv σ H Q z0=>z0.el λF S Γ d QD r g rv q c =>
  ⟨F,S,Γ,_,r,g,q,λov od H1 S1 J r1 v1 q1=>⟨F,S1,Γ,_,r1,g.ext J,q1,λiv id H2 U G Y v2 O=>by
   have L:=v1.ext G;cases od with
   |ref p =>
    cases id with
    |int kk =>
     obtain⟨xs,j,Z,hj,q3⟩:=O;obtain⟨us,hH,l⟩:=Y.obj p _ Z;rw[rref L,rint v2];have B:U p≠none:=by rw[Z];exact λz=>by cases z
     have D:Ext U H2 (supd U p (.lst (xs.set j d))) (upd H2 p (.lst (us.set j v))):=Ext.write B;refine⟨p,us,kk,j,rfl,rfl,hH,by rw[l.length];exact hj,?_⟩
     refine c Γ _ σ _ (J.trans (G.trans D)) (Y.write B ⟨_,aQ8,?_⟩) (g.ext (J.trans (G.trans D))) q3;exact RepL.set (rv.ext (J.trans (G.trans D))) j (l.ext D)
    |_=>exact O.elim
   |_=>exact O.elim⟩⟩
def fJ4:SD:=λE Γ S=>E.nx Γ S
def dSeq(t u:SD):SD:=λE Γ S=>t {E with nx:=u E} Γ S
def dAsg(te:ED)(g:GD):SD:=λE Γ S=>te Γ S λd S1=>g d Γ S1 E.nx
def fJ5(te:ED):SD:=λE Γ S=>te Γ S λ_ S1=>E.nx Γ S1
def dRet(te:ED):SD:=λE Γ S=>te Γ S E.rt
def dIfS(c:TD)(t u:SD):SD:=λE Γ S=>c Γ S λb S1=>if b=true then t E Γ S1 else u E Γ S1
section
variable{st:Stmt}{rest:List Stmt}{t u:SD}
theorem aZ3:PSsD K X [] fJ4:=.of dJu λz σ H j=>j.el λF S Γ E r g q c=>c.nx Γ S σ H (Ext.refl _ _) r g q
theorem aQ2(h1:PSD K X st t)(h2:PSsD K X rest u):PSsD K X (st::rest) (dSeq t u):=.of (dQp h1.o h2.o) λJ σ H j=>j.el λF S Γ E r g q c =>
 ⟨F,S,Γ,{E with nx:=u E},r,g,q,fun Γ1 G σ1 H1 z B g1 D=>⟨F,G,Γ1,E,B,g1,D,c.ext z⟩,c.rt,c.bk,c.ct⟩
theorem aQ3(h1:PSD K X st t):PSsD K X [st] t:=⟨dJv h1.o⟩
theorem cJf{tg e:Expr}{te:ED}{g:GD}(he:PD K X e te)(hg:PGD K X tg g)(hs:swapsWithSole [tg] e pos.line X.env=pure false:=by rfl)(hw:swappedStores [tg] e X.env=pure none:=by rfl)
  (h1:(dj [tg] X.env).map (·.2)=[jn tg X.env]:=by rfl):PSD K X (.Assign [tg] e pos) (dAsg te g):=.of (eJ4 he.o hg.o hs hw h1) λO σ H z=>z.el λF S Γ E r g q c =>
 ⟨F,S,Γ,_,r,g,q,λv d H1 L j D v1 G=>⟨F,L,Γ,d,_,D,g.ext j,v1,G,fun Γ2 J σ2 H2 B=>c.nx Γ2 J σ2 H2 (j.trans B)⟩⟩
theorem fQy{te:ED}{i:Nat}:∀D' σ H,upS K (dAsg te (aQq i)) D' σ H->tAsg (upE K te) (bQl i) D' σ H:=λD' σ H z=>z.el λF S Γ E r g q c =>
 ⟨F,S,Γ,_,r,g,q,λv d H1 G j B v1 D=>c.nx _ G _ H1 j B ((g.ext j).set v1 i) D⟩
theorem aQ9{i:Nat}{x:Str}{e:Expr}{te:ED}{pos':Pos}(hN:X.N.Nodup)(hi:X.N[i]?=some x)(hx:Loc X.env.scope x)(he:PD K X e te)(hs:g9 e (some (.Name x pos')) pos.line X.env=pure false:=by rfl)(hf:X.fn x=true\/X.env.scope.names.lookup x=some .local:=by first|exact .inl rfl|exact .inr rfl|assumption) :
  PSD K X (.Assign [.Name x pos'] e pos) (dAsg te (aQq i)):=.of (eJ5 hN hi hx he.o hs hf) fQy
theorem bQ8{e:Expr}{te:ED}(he:PD K X e te)(hs:g9 e none pos.line X.env=pure false:=by rfl):PSD K X (.Expr e pos) (fJ5 te):=.of (dJw he.o hs) λJ σ H z=>z.el λF S Γ E r g q c =>
 ⟨F,S,Γ,_,r,g,q,λv d H1 G j B v1 D=>c.nx Γ G σ H1 j B (g.ext j) D⟩
theorem aQe{e:Expr}{te:ED}(he:PD K X e te):PSD K X (.Return (some e) pos) (dRet te):=.of (eJ2 he.o) λJ σ H j=>j.el λF S Γ E r g q c =>
 ⟨F,S,Γ,_,r,g,q,λv d H1 G z B v1 D=>c.rt v d H1 G z B v1 D⟩
theorem aXs{c:Expr}{sa sb:List Stmt}{tc:TD}(hc:PTD K X c tc)(ha:PSsD K X sa t)(hb:PSsD K X sb u):PSD K X (.If c sa sb pos) (dIfS tc t u):=.of (fXd hc.o ha.o hb.o) λL σ H J=>J.el λF S Γ E r g q c =>
 ⟨F,S,Γ,_,r,g,q,λz H1 G j B D=>by
  cases z with
  |true=>exact⟨F,G,Γ,E,B,g.ext j,D,c.ext j⟩
  |false=>exact⟨F,G,Γ,E,B,g.ext j,D,c.ext j⟩⟩
def fQz(c:TD)(tb:SD):SD:=λE Γ S=>∃W:Nat->Gm->Sto->Prop,(∃m,W m Γ S)/\∀m Γ S,W m Γ S ->
 c Γ S λb S1=>if b=true then tb {E with nx:=fun Γ' S'=>∃m',m'<m/\W m' Γ' S',ct:=fun Γ' S'=>∃m',m'<m/\W m' Γ' S',bk:=E.nx} Γ S1 else E.nx Γ S1
theorem dZp{c:Expr}{body:List Stmt}{tc:TD}{tb:SD}(hp:PassesOwn (aF X.prog X.w) X.A X.env X.xe)(hc:PTD K X c tc)(hb:PSsD K X body tb):PSD K X (.While c body [] pos) (fQz tc tb):=.of (dQq hp hc.o hb.o) λD' σ H ⟨F,S,Γ,E,r,g,⟨W,⟨m0,Z⟩,turn⟩,c⟩ =>
 ⟨λm σ' H'=>∃ S' Γ',Ext S H S' H'/\Rp K F S' H'/\RepG K (mt S' F) H' Γ' σ'/\W m Γ' S',⟨m0,S,Γ,Ext.refl _ _,r,g,Z⟩,λm σ1 H1 ⟨U,Γ1,D,r1,g1,Y⟩ =>
  ⟨F,U,Γ1,_,r1,g1,turn m Γ1 U Y,λz H2 O B J L=>by
   cases z with
   |false=>exact c.nx Γ1 O σ1 H2 (D.trans B) J (g1.ext B) L
   |true =>
    refine⟨fun σ' H'=>∃j,j<m/\∃S' Γ',Ext S H S' H'/\Rp K F S' H'/\RepG K (mt S' F) H' Γ' σ'/\W j Γ' S',fun σ' H' ⟨j,h1,h2⟩=>⟨j,h1,h2⟩,F,O,Γ1,_,J,g1.ext B,L,?_,λv d H' S' q=>c.rt v d H' S' (D.trans (B.trans q)),fun Γ' S' σ' H' q=>c.nx Γ' S' σ' H' (D.trans (B.trans q)),?_⟩
    ·exact fun Γ' S' σ' H' q G g3 ⟨j,h1,h2⟩=>⟨j,h1,S',Γ',D.trans (B.trans q),G,g3,h2⟩
    ·exact fun Γ' S' σ' H' q G g3 ⟨j,h1,h2⟩=>⟨j,h1,S',Γ',D.trans (B.trans q),G,g3,h2⟩⟩⟩
end
def FE(F:Am)(H:Hp)(F2:Am):Prop:=∀a,F2 a->F a\/H a=none
theorem FE.refl(F:Am)(H:Hp):FE F H F:=λ_ h=>.inl h
structure ExtW(F:Am)(S:Sto)(H:Hp)(S':Sto)(H':Hp):Prop where
 keep:∀a o,¬ mt S F a->H a=some o->H' a=some o
 new:∀a,S' a≠none->S a≠none\/H a=none
theorem Ext.w{F:Am}{S S':Sto}{H H':Hp}(x:Ext S H S' H'):ExtW F S H S' H':=⟨λa o h e=>x.keep a o (aR λn=>h (.inl n)) e,x.new⟩
theorem ExtW.kpF{F F2:Am}{S S':Sto}{H H':Hp}(x:ExtW F S H S' H')(f:FE F H F2):Keep (mt S F) H (mt S' F2) H':=⟨x.keep,λa h e=>λz=>by
 rcases z with z|z
 ·rcases x.new a z with y|y
  ·exact h (.inl y)
  ·exact e y
 ·rcases f a z with y|y
  ·exact h (.inr y)
  ·exact e y⟩
structure ItOk(K:Fg)(F:Am)(S:Sto)(H:Hp)(J:It)(xs:List D)(G:Sto->Prop):Prop where
 go:∀F2,FE F H F2->∀S2 H2,ExtW F S H S2 H2->Rp K F2 S2 H2->G S2->∀i d,xs[i]?=some d->J.go i H2/\∀x H3,J.yld i H2 x H3->Ext S2 H2 S2 H3/\Rp K F2 S2 H3/\RepV K (mt S2 F2) H3 d x
 stop:∀F2,FE F H F2->∀S2 H2,ExtW F S H S2 H2->Rp K F2 S2 H2->G S2->J.stop xs.length H2
abbrev IDk:=List D->(Sto->Prop)->Sto->Prop
abbrev ID:=Gm->Sto->IDk->Prop
def upI(K:Fg)(t:ID):TI:=fun σ H R=>∃F S Γ QD,Rp K F S H/\RepG K (mt S F) H Γ σ/\t Γ S QD/\∀J xs G H' S',Ext S H S' H'->Rp K F S' H'->ItOk K F S' H' J xs G->QD xs G S'->R J H'
theorem upI.el{K:Fg}{t:ID}{σ:St}{H:Hp}{R:It->Hp->Prop}{p:Prop}(h:upI K t σ H R)(k:∀F S Γ QD,Rp K F S H->RepG K (mt S F) H Γ σ->t Γ S QD->(∀J xs G H' S',Ext S H S' H'->Rp K F S' H'->ItOk K F S' H' J xs G->QD xs G S'->R J H')->p):p:=by
 obtain⟨F,S,Γ,QD,h0,h1,h2,j⟩:=h;exact k F S Γ QD h0 h1 h2 j
structure PID(K:Fg)(X:Cx)(tg e:Expr)(t:ID):Prop where
 o:PI X tg e (upI K t)
theorem PID.of{tg e:Expr}{te:TI}{t:ID}(h:PI X tg e te)(i:∀σ H Q,upI K t σ H Q->te σ H Q):PID K X tg e t:=⟨λpins s σ H Q I q=>h pins s σ H Q I (i σ H Q q)⟩
def iSq(K:Fg)(tl:TE):TI:=fun σ H R=>tl σ H λx H1=>(∃a,x=.ref a/\(∃xs,SqL K H1 a xs)/\R (Itl K a) H1)\/∃a,x=.ref a/\(∃xs,SqT K H1 a xs)/\R (Itt K a) H1
theorem fJ6{tg l:Expr}{tl:TE}(hl:PE X l tl)(hK:X.K=K:=by rfl):PI X tg l (iSq K tl):=by
 subst hK;intro pins s σ H R I h;refine thn (hl pins s σ H _ I h) λv s1 ⟨x,H1,j,r1,G⟩=>?_;have fp:∀b∈[s1.heap.objs.size],FpOk X pins H1 b:=λb L=>by
  have e:b=s1.heap.objs.size:=by simpa using L
  subst e;exact j.fpOk (Nat.le_refl _) (j.hok.fresh (Nat.le_refl _))
 rcases G with⟨a,e,⟨xs,B⟩,q⟩|⟨a,e,⟨xs,B⟩,q⟩
 ·subst e;cases r1;obtain⟨z,D,p,J⟩:=j.list B;exact fL p.isList ⟨s1.heap.objs.size,[s1.heap.objs.size],_,_,H1,rfl,j.kept (t':=s1.toks) λb o e=>ag _ e,cX8 a _,⟨_,ar _ rfl,rfl,rfl⟩,fp,q⟩
 ·subst e;cases r1;obtain⟨z,D,p,J⟩:=j.tuple B;exact gA (show s1.heap.IsTuple a z.toArray from p) ⟨s1.heap.objs.size,[s1.heap.objs.size],_,_,H1,rfl,j.kept (t':=s1.toks) λb o e=>ag _ e,cZf a _,⟨_,ar _ rfl,rfl,rfl⟩,fp,q⟩
def fZ0(d:D)(xs:List D):Sto->Prop:=match d with
 |.ref a=>λS=>S a=some (.lst xs)
 |_=>λ_=>True
def dSq(te:ED):ID:=fun Γ S Q=>te Γ S λd S1=>∃xs,sqIs S1 d xs/\Q xs (fZ0 d xs) S1
theorem eZb{F:Am}{S:Sto}{H:Hp}{p:Addr}{xs:List D}{us:List V}{G:Sto->Prop}(t:TupAt K (mt S F) H p us)(l:RepL K (mt S F) H xs us):ItOk K F S H (Itt K p) xs G where
 go:=λU f O H2 x q _ i d hd=>by
  have j:=(t.keep (x.kpF f)).sq;obtain⟨v,z,J⟩:=l.get hd;refine⟨⟨us,v,j,z⟩,λy Y ⟨L,B⟩=>?_⟩;subst L
  have:=B us j
  rw[z] at this;cases this;exact⟨Ext.refl _ _,q,J.keep (x.kpF f)⟩
 stop:=λU f O H2 x q _=>⟨us,(t.keep (x.kpF f)).sq,by rw[l.length];exact Nat.le_refl _⟩
theorem eZc{F:Am}{S:Sto}{H:Hp}{p:Addr}{xs:List D}{us:List V}{G:Sto->Prop}(t:LstAt K (mt S F) H p us)(l:RepL K (mt S F) H xs us):ItOk K F S H (Itl K p) xs G where
 go:=λU f O H2 x q _ i d hd=>by
  obtain⟨v,z,J⟩:=l.get hd;have j:SqL K H2 p us:=(t.keep (x.kpF f)).sq;refine⟨⟨us,v,j,z⟩,λy Y ⟨L,B⟩=>?_⟩;subst L
  have:=B us j
  rw[z] at this;cases this;exact⟨Ext.refl _ _,q,J.keep (x.kpF f)⟩
 stop:=λU f O H2 x q _=>⟨us,(t.keep (x.kpF f)).sq,by rw[l.length];exact Nat.le_refl _⟩
theorem eZd{F:Am}{S:Sto}{H:Hp}{p:Addr}{xs:List D}:ItOk K F S H (Itl K p) xs (fZ0 (.ref p) xs) where
 go:=λU f O H2 x j z i d hd=>by
  obtain⟨us,q,l⟩:=j.obj p _ z;obtain⟨v,B,J⟩:=l.get hd;refine⟨⟨us,v,SqL.of q,B⟩,λy Y ⟨L,G⟩=>?_⟩;subst L
  have:=G us (SqL.of q)
  rw[B] at this;cases this;exact⟨Ext.refl _ _,j,J⟩
 stop:=λU f O H2 x j z=>by
  obtain⟨us,q,l⟩:=j.obj p _ z;exact⟨us,SqL.of q,by rw[l.length];exact Nat.le_refl _⟩
theorem aZb{tg l:Expr}{tl:ED}(hl:PD K X l tl)(hK:X.K=K:=by rfl):PID K X tg l (dSq tl):=.of (fJ6 hl.o hK) fun σ H Q G=>G.el λF S Γ QD r g q c =>
 ⟨F,S,Γ,_,r,g,q,λv d H1 L z j v1 D=>by
  obtain⟨xs,hs,B⟩:=D;cases d with
  |tup ys =>
   cases hs;unfold RepV at v1;obtain⟨p,us,rfl,t,l⟩:=v1;exact .inr ⟨p,rfl,⟨us,t.sq⟩,c _ _ _ _ _ z j (eZb t l) B⟩
  |lst ys =>
   cases hs;unfold RepV at v1;obtain⟨p,us,rfl,t,l⟩:=v1;exact .inl ⟨p,rfl,⟨us,t.sq⟩,c _ _ _ _ _ z j (eZc t l) B⟩
  |ref p =>
   rw[rref v1];obtain⟨us,J,l⟩:=j.obj p _ hs;exact .inl ⟨p,rfl,⟨us,SqL.of J⟩,c _ _ _ _ _ z j eZd B⟩
  |_=>exact hs.elim⟩
def rngD(lo:Int):Nat->List D
 |0=>[]
 |n+1=>.int lo::rngD (lo+1) n
theorem aZc:∀(n:Nat) (lo:Int),(rngD lo n).length=n
 |0,_=>rfl
 |n+1,lo=>by simp[rngD,aZc n]
theorem bZh:∀(n:Nat) (lo:Int) (i:Nat) (d:D),(rngD lo n)[i]?=some d->i<n/\d=.int (lo+i)
 |0,lo,i,d,h=>by simp[rngD] at h
 |n+1,lo,0,d,h=>by simp[rngD] at h;exact⟨by lia,by rw[<- h];simp⟩
 |n+1,lo,i+1,d,h=>by
  have h':(rngD (lo+1) n)[i]?=some d:=by simpa [rngD] using h
  obtain⟨h1,h2⟩:=bZh n (lo+1) i d h';refine⟨by lia,?_⟩
  rw[h2]
  congr 1
  rw[cS];lia
theorem cJg{F:Am}{S:Sto}{H:Hp}{lo:Int}{n:Nat}{G:Sto->Prop}:ItOk K F S H (Itr lo n) (rngD lo n) G where
 go:=λD f B H2 x j _ i d hd=>by
  obtain⟨h1,rfl⟩:=bZh n lo i d hd;exact⟨h1,λy J ⟨z,q⟩=>by subst z;subst q;exact⟨Ext.refl _ _,j,by unfold RepV;rfl⟩⟩
 stop:=λD f B H2 x j _=>by rw[aZc];exact Nat.le_refl n
def fJ7(ta:AD):ID:=fun Γ S Q=>ta Γ S λds S1=>match ds with
 |[.int j]=>(-(2^62)<=j/\j<2^62)/\Q (rngD 0 j.toNat) (λ_=>True) S1
 |_=>False
def fJ8(ta:AD):ID:=fun Γ S Q=>ta Γ S λds S1=>match ds with
 |[.int i,.int j]=>(-(2^62)<=i/\i<2^62/\-(2^62)<=j/\j<2^62)/\Q (rngD i (j-i).toNat) (λ_=>True) S1
 |_=>False
theorem aZo{tg:Expr}{p:Pos}{ta:AD}(hg:Gl X "range")(hm:X.mg "range"=none)(ha:PAD K X [a] ta)(hs:aC [a] X.env=[(false,eval a X.env)]:=by rfl):PID K X tg (.Call (.Name "range" p) [a] [] pos) (fJ7 ta):=.of (cX9 hg hm ha.o hs) fun σ H Q B=>B.el λF S Γ QD r g q c =>
 ⟨F,S,Γ,_,r,g,q,λvs ds H1 L D J v1 z=>by
  match ds,z with
  |[.int j],z =>
   obtain⟨v,rfl,G⟩:=v1.one;rw[rint G];exact⟨j,rfl,z.1.1,z.1.2,c _ _ _ _ _ D J cJg z.2⟩⟩
theorem cJh{tg:Expr}{p:Pos}{ta:AD}(hg:Gl X "range")(hm:X.mg "range"=none)(ha:PAD K X [a,b] ta)(hs:aC [a,b] X.env=[(false,eval a X.env),(false,eval b X.env)]:=by rfl)(hs2:aC [b] X.env=[(false,eval b X.env)]:=by rfl):PID K X tg (.Call (.Name "range" p) [a,b] [] pos) (fJ8 ta):=.of (cXa hg hm ha.o hs hs2) fun σ H Q D=>D.el λF S Γ QD r g q c =>
 ⟨F,S,Γ,_,r,g,q,λvs ds H1 O G L v1 z=>by
  match ds,z with
  |[.int i,.int j],z =>
   obtain⟨v,w,rfl,J,B⟩:=v1.two;rw[rint J,rint B];exact⟨i,j,rfl,z.1,c _ _ _ _ _ G L cJg z.2⟩⟩
def bQp(lo:Int):List D->List D
 |[]=>[]
 |d::ds=>.tup [.int lo,d]::bQp (lo+1) ds
theorem bQ9:∀(ds:List D) (lo:Int),(bQp lo ds).length=ds.length
 |[],_=>rfl
 |d::ds,lo=>by simp[bQp,bQ9 ds]
theorem bQa:∀(ds:List D) (lo:Int) (i:Nat) (d:D),(bQp lo ds)[i]?=some d->∃e,ds[i]?=some e/\d=.tup [.int (lo+i),e]
 |[],lo,i,d,h=>by simp[bQp] at h
 |e::ds,lo,0,d,h=>by simp[bQp] at h;exact⟨e,rfl,by rw[<- h];simp⟩
 |e::ds,lo,i+1,d,h=>by
  have h':(bQp (lo+1) ds)[i]?=some d:=by simpa [bQp] using h
  obtain⟨f,h1,h2⟩:=bQa ds (lo+1) i d h';refine⟨f,by simpa using h1,?_⟩
  rw[h2]
  have:lo+1+(i:Int)=lo+((i+1:Nat):Int):=by rw[cS];lia
  rw[this]
theorem eZe{F:Am}{S:Sto}{H:Hp}{p:Addr}{i:Nat}{y:V}{d:D}(r:Rp K F S H)(hp:H p=none)(rv:RepV K (mt S F) H d y):Ext S H S (upd H p (.tup [.int i,y]))/\Rp K F S (upd H p (.tup [.int i,y]))/\RepV K (mt S F) (upd H p (.tup [.int i,y])) (.tup [.int (0+i),d]) (.ref p):=by
 have x:Ext S H S (upd H p (.tup [.int i,y])):=Ext.same (aQt hp);refine⟨x,r.same (aQt hp),?_⟩;unfold RepV;exact⟨p,_,rfl,.inl ⟨r.nmt hp,.inl aQ8⟩,RepL.cons (by unfold RepV;rw[Int.zero_add]) (RepL.cons (rv.ext x) RepL.nil)⟩
theorem eZf{F:Am}{S:Sto}{H:Hp}{p:Addr}{xs:List D}{us:List V}{G:Sto->Prop}(t:TupAt K (mt S F) H p us)(l:RepL K (mt S F) H xs us):ItOk K F S H (Ite K p) (bQp 0 xs) G where
 go:=λF2 f S2 H2 x B _ i d hd=>by
  obtain⟨e,he,rfl⟩:=bQa xs 0 i d hd;obtain⟨v,J,O⟩:=l.get he;have j:=(t.keep (x.kpF f)).sq;refine⟨⟨us,v,j,J⟩,λz H3 ⟨q,y,U,Y,Z,L⟩=>?_⟩;subst Y;subst Z
  have:=L us j
  rw[J] at this;cases this;exact eZe B U (O.keep (x.kpF f))
 stop:=λF2 f S2 H2 x B _=>⟨us,(t.keep (x.kpF f)).sq,by rw[bQ9,l.length];exact Nat.le_refl _⟩
def dEnT(ta:AD):ID:=fun Γ S Q=>ta Γ S λds S1=>match ds with
 |[.tup xs]=>Q (bQp 0 xs) (λ_=>True) S1
 |_=>False
theorem fZ1{e:Expr}{ta:AD}{p:Pos}{elts:List Expr}{x1:Nat}{tpos:Pos}(hg:Gl X "enumerate")(hm:X.mg "enumerate"=none)(ha:PAD K X [e] ta)(hs:aC [e] X.env=[(false,eval e X.env)]:=by rfl)(hK:X.K=K:=by rfl) :
  PID K X (.Tuple elts x1 tpos) (.Call (.Name "enumerate" p) [e] [] pos) (dEnT ta):=.of (eJz hg hm ha.o hs hK) fun σ H Q B=>B.el λF S Γ QD r g q c =>
 ⟨F,S,Γ,_,r,g,q,λvs ds H1 G x1 D v1 j=>by
  match ds,j with
  |[.tup xs],j =>
   obtain⟨v,rfl,z⟩:=v1.one;unfold RepV at z;obtain⟨p,us,rfl,t,l⟩:=z;exact⟨p,rfl,⟨us,t.sq⟩,c _ _ _ _ _ x1 D (eZf t l) j⟩⟩
def forD(g:GD)(tb:SD)(G:Sto->Prop)(E:EndsD):List D->Gm->Sto->Prop
 |[],Γ,S=>G S/\E.nx Γ S
 |x::xs,Γ,S=>G S/\g x Γ S fun Γ2 S2=>tb {E with nx:=forD g tb G E xs,ct:=forD g tb G E xs,bk:=E.nx} Γ2 S2
def dFor(wi:ID)(g:GD)(tb:SD):SD:=λE Γ S=>wi Γ S λxs G S1=>forD g tb G E xs Γ S1
theorem aX3{α:Type}{xs:List α}{i:Nat}(h:i<xs.length):xs.drop i=xs[i]::xs.drop (i+1):=cQ h
theorem aZw{tg iter:Expr}{body:List Stmt}{wi:ID}{g:GD}{tb:SD}(hp:PassesOwn (aF X.prog X.w) X.A X.env X.xe)(hc:X.calm=true)(hi:PID K X tg iter wi)(hg:PGD K X tg g)(hb:PSsD K X body tb)(hs:∀x,cq iter X.env x=pure x:=by intro _;rfl):PSD K X (.For tg iter body [] pos) (dFor wi g tb):=.of (eJ7 hp hc hi.o hg.o hb.o hs) λD' σ H z0=>z0.el λF S Γ E r gm q c =>
 ⟨F,S,Γ,_,r,gm,q,λJ xs G H1 S1 x1 r1 it q1=>by
  refine⟨λi m σ' H'=>m=xs.length-i/\i<=xs.length/\∃S' Γ',Ext S1 H1 S' H'/\Rp K F S' H'/\RepG K (mt S' F) H' Γ' σ'/\forD g tb G E (xs.drop i) Γ' S',⟨xs.length,by simp,Nat.zero_le _,S1,Γ,Ext.refl _ _,r1,gm.ext x1,by simpa using q1⟩,?_⟩
  rintro i m σ' H' ⟨rfl,hi.o,S',Γ',Z,r2,g2,f2⟩
  by_cases O:i<xs.length
  ·rw[aX3 O] at f2;obtain⟨hG,f2⟩:=f2;obtain⟨hgo,hy⟩:=it.go F (FE.refl F H1) S' H' Z.w r2 hG i xs[i] (af O);refine .inr ⟨hgo,fun σ'' D=>∃B Γ'',Ext S1 H1 B D/\Rp K F B D/\RepG K (mt B F) D Γ'' σ''/\forD g tb G E (xs.drop (i+1)) Γ'' B,fun σ'' D z=>⟨xs.length-(i+1),by lia,rfl,O,z⟩,λx H3 y3=>?_⟩
   obtain⟨x3,r3,v3⟩:=hy x H3 y3;refine⟨F,S',Γ',xs[i],_,r3,g2.ext x3,v3,f2,fun Γ4 S4 σ4 H4 x4 r4 g4 q4=>⟨F,S4,Γ4,_,r4,g4,q4,?_⟩⟩;have j:=Z.trans (x3.trans x4);exact⟨fun Γ5 U σ5 Y L r5 g5 q5=>⟨U,Γ5,j.trans L,r5,g5,q5⟩,λv d Y U L=>c.rt v d Y U (x1.trans (j.trans L)),fun Γ5 U σ5 Y L=>c.nx Γ5 U σ5 Y (x1.trans (j.trans L)),fun Γ5 U σ5 Y L r5 g5 q5=>⟨U,Γ5,j.trans L,r5,g5,q5⟩⟩
  ·have e:i=xs.length:=by lia
   subst e;rw[f8] at f2;exact .inl ⟨it.stop F (FE.refl F H1) S' H' Z.w r2 f2.1,c.nx Γ' S' σ' H' (x1.trans Z) r2 g2 f2.2⟩⟩
end
end L2
set_option maxHeartbeats 1000000
namespace L2
open PySem PySem.Spec PyProof.Rows
section
variable{X:Cx}{K:Fg}{pos:Pos}{k:Nat}
structure ExtX(D':Addr)(S:Sto)(H:Hp)(S':Sto)(H':Hp):Prop where
 keep:∀a o,a≠D'->S a=none->H a=some o->H' a=some o
 live:∀a,H a≠none->H' a≠none
 new:∀a,S' a≠none->S a≠none\/H a=none
theorem Ext.x{D':Addr}{S S':Sto}{H H':Hp}(x:Ext S H S' H'):ExtX D' S H S' H':=⟨λa o _=>x.keep a o,x.live,x.new⟩
theorem ExtX.trans{D':Addr}{S S1 S2:Sto}{H H1 H2:Hp}(x:ExtX D' S H S1 H1)(y:ExtX D' S1 H1 S2 H2):ExtX D' S H S2 H2 :=
  ⟨λa o n h h' => y.keep a o n (by
      cases e:S1 a with
      |none =>rfl
      | some z => rcases x.new a (by rw [e]; exact λz => by cases z) with z | z
                  · exact absurd h z
                  · rw [h'] at z; cases z) (x.keep a o n h h'),λa h =>y.live a (x.live a h),λa h =>by
    rcases y.new a h with z|z
    · exact x.new a z
    · exact .inr (aR λn =>x.live a n z)⟩
theorem ExtX.kp{D':Addr}{F:Am}{S S':Sto}{H H':Hp}(x:ExtX D' S H S' H')(hF:F D'):Keep (mt S F) H (mt S' F) H':=⟨λa o h e=>x.keep a o (by rintro rfl;exact h (.inr hF)) (aR λn=>h (.inl n)) e,λa h e=>λz=>by
 rcases z with z|z
 ·rcases x.new a z with y|y
  ·exact h (.inl y)
  ·exact e y
 ·exact h (.inr z)⟩
theorem ExtX.w{D':Addr}{F:Am}{S S':Sto}{H H':Hp}(x:ExtX D' S H S' H')(hF:F D'):ExtW F S H S' H':=⟨λa o h e=>x.keep a o (by rintro rfl;exact h (.inr hF)) (aR λn=>h (.inl n)) e,x.new⟩
def Free(L:List Nat)(σ:St):Prop:=∀i∈L,σ[i]?=some none
abbrev BD:=Gm->Sto->List D->(List D->Sto->Prop)->Prop
def bXq(K:Fg)(L:List Nat)(tv:Addr->TB)(td:BD):Prop:=∀D' F S H Γ σ acc zs N QD,Free L σ->F D'->Rp K F S H->RepG K (mt S F) H Γ σ->H D'=some (.lst zs)->RepL K (mt S F) H acc zs->td Γ S acc QD ->
 (∀acc' S' H' zs',ExtX D' S H S' H'->Rp K F S' H'->H' D'=some (.lst zs')->RepL K (mt S' F) H' acc' zs'->QD acc' S'->N H')->tv D' σ H N
def bQb(te:ED):BD:=fun Γ S acc Q=>te Γ S λy S1=>acc.length<sizeLine/\Q (acc++[y]) S1
theorem aQn{L:List Nat}{te:ED}:bXq K L (λD'=>eJs D' (upE K te)) (bQb te):=by
 intro D' F S H Γ σ acc zs N QD _ j r g Z l q c;refine⟨F,S,Γ,_,r,g,q,λv d H1 B D G v1 ⟨U,O⟩=>?_⟩;have Y:S D'=none:=(r.frm D' j).2;have J:B D'=none:=(G.frm D' j).2;have h1:H1 D'=some (.lst zs):=D.keep _ _ Y Z;have y:ExtX D' B H1 B (upd H1 D' (.lst (zs++[v]))):=⟨λa o n _ e=>by rw[upd_ne n];exact e,λa h=>by
  by_cases e:a=D'
  ·subst e;rw[aQ8];exact λz=>by cases z
  ·rw[upd_ne e];exact h,λa h=>.inl h⟩
 refine⟨zs,h1,by rw[l.length];exact U,c _ B _ (zs++[v]) (D.x.trans y) ?_ aQ8 ?_ O⟩
 ·exact⟨λa o e=>(G.obj a o e).keep (y.kp j) (upd_ne (by rintro rfl;rw[J] at e;cases e)),λa h=>by
   obtain⟨⟨ys,e,ct⟩,h2⟩:=G.frm a h
   by_cases z:a=D'
   ·subst z;exact⟨⟨_,aQ8,trivial⟩,h2⟩
   ·exact⟨⟨ys,by rw[upd_ne z];exact e,ct⟩,h2⟩⟩
 ·exact RepL.app ((l.ext D).keep (y.kp j)) (RepL.cons (v1.keep (y.kp j)) RepL.nil)
def CG(K:Fg)(L L':List Nat)(g:TG)(gd:GD):Prop:=∀F S H Γ σ d v Q QD,Free L σ->Rp K F S H->RepG K (mt S F) H Γ σ->RepV K (mt S F) H d v->gd d Γ S QD->(∀Γ' S' σ' H',Ext S H S' H'->Rp K F S' H'->RepG K (mt S' F) H' Γ' σ'->Wk σ σ'->Free L' σ'->QD Γ' S'->Q σ' H')->g v σ H Q
theorem Free.set{L:List Nat}{σ:St}{i:Nat}{v:V}(h:Free (i::L) σ)(hi:i∉L):Free L (σ.set i (some v)):=λj q=>by
 rw[fN (by rintro rfl;exact hi q)]
 exact h j (ao _ q)
theorem cg_name{L:List Nat}{i:Nat}(hi:i∉L:=by decide):CG K (i::L) L (bQl i) (aQq i):=λF S H Γ σ d v Q QD f r g j q c=>c _ S _ H (Ext.refl _ _) r (g.set j i) (cZl (f i ak)) (f.set hi) q
theorem eZg{L:List Nat}{i j:Nat}(hi:i∉j::L:=by decide)(hj:j∉L:=by decide):CG K (i::j::L) L (gTup K 2 (bJ5 (bQl i) (bJ5 (bQl j) gNil))) (cZv 2 (aX2 (aQq i) (aX2 (aQq j) cZu))):=λF S H Γ σ d v Q QD f r g z q c=>by
 cases d with
 |tup ds =>
  obtain⟨p,us,rfl,sq,l⟩:=tup.st z;obtain⟨hl,q⟩:=q
  match ds,hl,q with
  |[J,G],_,q =>
   obtain⟨v1,v2,rfl,D,B⟩:=l.two;have f1:Free (j::L) (σ.set i (some v1)):=f.set hi;exact⟨p,_,rfl,sq,rfl,v1,_,rfl,v2,_,rfl,rfl,c _ S _ H (Ext.refl _ _) r ((g.set D i).set B j) ((cZl (f i ak)).trans (cZl (f1 j ak))) (f1.set hj) q.2⟩
 |_=>exact q.elim
def aZd(g:GD)(tt:TD)(tb:BD)(G:Sto->Prop)(Γ0:Gm):List D->List D->Sto->(List D->Sto->Prop)->Prop
 |[],acc,S,Q=>G S/\Q acc S
 |x::xs,acc,S,Q=>G S/\g x Γ0 S fun Γ2 S2=>tt Γ2 S2 λb S3=>if b=true then tb Γ2 S3 acc λacc' S4=>aZd g tt tb G Γ0 xs acc' S4 Q else aZd g tt tb G Γ0 xs acc S3 Q
theorem eZh{L L':List Nat}{g:TG}{gd:GD}{tt:TD}{tv:Addr->TB}{tb:BD}(hg:CG K L L' g gd)(hb:bXq K L' tv tb){D':Addr}{F:Am}{S:Sto}{H:Hp}{Γ:Gm}{σ:St}{acc:List D}{zs:List V}{N:Hp->Prop}{QD:List D->Sto->Prop}{J:It}{xs:List D}{G:Sto->Prop}
  (f:Free L σ) (hF:F D') (r:Rp K F S H) (gm:RepG K (mt S F) H Γ σ) (hH:H D'=some (.lst zs)) (l:RepL K (mt S F) H acc zs) (it:∀S2 H2,ExtX D' S H S2 H2->Rp K F S2 H2->G S2->(∀i d,xs[i]?=some d->J.go i H2/\∀x H3,J.yld i H2 x H3->Ext S2 H2 S2 H3/\Rp K F S2 H3/\RepV K (mt S2 F) H3 d x)/\J.stop xs.length H2)
  (q:aZd gd tt tb G Γ xs acc S QD) (c:∀acc' S' H' zs',ExtX D' S H S' H'->Rp K F S' H'->H' D'=some (.lst zs')->RepL K (mt S' F) H' acc' zs'->QD acc' S'->N H'):bJ9 J σ g (upT K tt) (tv D') N H:=by
 refine⟨λi m H'=>m=xs.length-i/\i<=xs.length/\∃S' acc' zs',ExtX D' S H S' H'/\Rp K F S' H'/\H' D'=some (.lst zs')/\RepL K (mt S' F) H' acc' zs'/\aZd gd tt tb G Γ (xs.drop i) acc' S' QD,⟨xs.length,by simp,Nat.zero_le _,S,acc,zs,(Ext.refl _ _).x,r,hH,l,by simpa using q⟩,?_⟩
 rintro i m H' ⟨rfl,hi,S',acc',zs',x2,r2,h2,l2,f2⟩;have g2:=gm.keep (x2.kp hF)
 by_cases Z:i<xs.length
 ·rw[aX3 Z] at f2;obtain⟨hG,f2⟩:=f2;obtain⟨hgo,hy⟩:=(it S' H' x2 r2 hG).1 i xs[i] (af Z);refine .inr ⟨hgo,λB=>∃O j U,ExtX D' S H O B/\Rp K F O B/\B D'=some (.lst U)/\RepL K (mt O F) B j U/\aZd gd tt tb G Γ (xs.drop (i+1)) j O QD,λB z=>⟨xs.length-(i+1),by omega,rfl,Z,z⟩,λx H3 y3=>?_⟩
  obtain⟨x3,r3,v3⟩:=hy x H3 y3;refine hg F S' H3 Γ σ xs[i] x _ _ f r3 (g2.ext x3) v3 f2 fun Γ4 S4 σ4 H4 x4 r4 g4 wk fr4 q4=>⟨wk,F,S4,Γ4,_,r4,g4,q4,λz H5 S5 x5 r5 q5=>?_⟩;have Y:=x3.trans (x4.trans x5);have h5:H5 D'=some (.lst zs'):=Y.keep _ _ (r2.frm D' hF).2 h2;have l5:=l2.ext Y;have x05:ExtX D' S H S5 H5:=x2.trans Y.x;cases z with
  |false=>exact⟨S5,acc',zs',x05,r5,h5,l5,q5⟩
  |true=>exact hb D' F S5 H5 Γ4 σ4 acc' zs' _ _ fr4 hF r5 (g4.ext x5) h5 l5 q5 λacc6 S6 H6 zs6 x6 r6 h6 l6 q6=>⟨S6,acc6,zs6,x05.trans x6,r6,h6,l6,q6⟩
 ·have e:i=xs.length:=by omega
  subst e;rw[f8] at f2;exact .inl ⟨(it S' H' x2 r2 f2.1).2,c acc' S' H' zs' x2 r2 h2 l2 f2.2⟩
def fZ2(wi:ID)(g:GD)(tt:TD)(tb:BD):BD:=fun Γ S acc Q=>wi Γ S λxs G S1=>aZd g tt tb G Γ xs acc S1 Q
def cJi(is:List (Option Nat))(Γ:Gm):Gm:=is.map λo=>o.bind λi=>(Γ[i]?).join
theorem RepG.at{M:Am}{H:Hp}:∀{g:Gm}{σ:St}{i:Nat}{d:D},RepG K M H g σ->g[i]?=some (some d)->∃v,σ[i]?=some (some v)/\RepV K M H d v
 |[],_,_,_,_,e=>by simp at e
 |none::g,_,0,_,_,e=>by simp at e
 |some d::g,_,0,e,⟨v,τ,rfl,q,r⟩,h=>by simp at h;subst h;exact⟨v,rfl,q⟩
 |none::g,_,i+1,d,⟨v,τ,rfl,r⟩,h=>by
  obtain⟨u,j,h1⟩:=RepG.at (i:=i) r (by simpa using h)
  exact⟨u,by simpa using j,h1⟩
 |some _::g,_,i+1,d,⟨v,τ,rfl,q,r⟩,h=>by
  obtain⟨u,j,h1⟩:=RepG.at (i:=i) r (by simpa using h)
  exact⟨u,by simpa using j,h1⟩
theorem RepG.capt{M:Am}{H:Hp}{g:Gm}{σ:St}(h:RepG K M H g σ):∀is:List (Option Nat),RepG K M H (cJi is g) (capt is σ)
 |[]=>rfl
 |o::is=>by
  have j:=RepG.capt h is;cases o with
  |none=>exact⟨_,_,rfl,j⟩
  |some i =>
   show RepG K M H ((g[i]?).join::cJi is g) ((σ[i]?).join::L2.capt is σ);cases e:g[i]? with
   |none=>exact⟨_,_,rfl,j⟩
   |some z =>
    cases z with
    |none=>exact⟨_,_,rfl,j⟩
    |some d =>
     obtain⟨v,q,r⟩:=h.at e;rw[q];exact⟨v,_,rfl,r,j⟩
def eZi(b:Bool)(is:List (Option Nat))(wi:ID)(g:GD)(tt:TD)(tb:BD):ED:=fun Γ S Q=>wi Γ S λxs G S1=>aZd g tt tb G (cJi is Γ) xs [] S1 λacc S2=>newL b acc S2 Q
theorem cJj{b:Bool}{L L':List Nat}{is:List (Option Nat)}{wi:ID}{g:TG}{gd:GD}{tt:TD}{tv:Addr->TB}{tb:BD}(hL:∀σ,Free L (capt is σ))(hg:CG K L L' g gd)(hb:bXq K L' tv tb):∀σ H Q,upE K (eZi b is wi gd tt tb) σ H Q->cQ9 is (upI K wi) g (upT K tt) tv σ H Q:=fun σ H Q z0=>z0.el λF S Γ QD r gm q c =>
 ⟨F,S,Γ,_,r,gm,q,λJ xs G H1 D x1 r1 it q1 D' B=>by
  have Y:D D'=none:=r1.sn B;have fe:FE F H1 (λa=>F a\/a=D'):=λa h=>h.elim .inl λe=>.inr (by rw[e];exact B)
  have nF:¬ F D':=λh=>by
   obtain⟨⟨ys,e,_⟩,_⟩:=r1.frm D' h;rw[B] at e;cases e
  have xe:Ext D H1 D (upd H1 D' (.lst [])):=Ext.same (aQt B);have kp:Keep (mt D F) H1 (mt D λa=>F a\/a=D') (upd H1 D' (.lst [])):=xe.w.kpF fe;have r2:Rp K (λa=>F a\/a=D') D (upd H1 D' (.lst [])):=⟨λa o e=>(r1.obj a o e).keep kp (upd_ne (by rintro rfl;rw[Y] at e;cases e)),λa h=>by
   rcases h with h|h
   ·obtain⟨⟨ys,e,ct⟩,h2⟩:=r1.frm a h;exact⟨⟨ys,by rw[upd_ne (by rintro rfl;rw[B] at e;cases e)];exact e,ct⟩,h2⟩
   ·subst h;exact⟨⟨_,aQ8,trivial⟩,Y⟩⟩
  have old:∀ {O H2},ExtX D' D (upd H1 D' (.lst [])) O H2->Ext D H1 O H2:=λ{O H2} y=>⟨λa o h e=>y.keep a o (by rintro rfl;rw[B] at e;cases e) h (by rw[upd_ne (by rintro rfl;rw[B] at e;cases e)];exact e),λa h=>y.live a (xe.live a h),λa h=>by
   rcases y.new a h with z|z
   ·exact .inl z
   ·by_cases e:a=D'
    ·subst e;exact .inr B
    ·rw[upd_ne e] at z;exact .inr z⟩
  refine eZh hg hb (hL σ) (F:=λa=>F a\/a=D') (.inr rfl) r2 ((gm.ext x1).keep kp |>.capt is) aQ8 RepL.nil (λO H2 y r2 hG=>⟨it.go _ fe O H2 (old y).w r2 hG,it.stop _ fe O H2 (old y).w r2 hG⟩) q1 λj S' H' U y r3 h3 l3 q3=>?_
  have less:Keep (mt S' λa=>F a\/a=D') H' (mt S' F) H':=⟨λ_ _ _ e=>e,λa h _=>λz=>h (z.elim .inl λw=>.inr (.inl w))⟩;have x3:=old y;have Z:S' D'=none:=(r3.frm D' (.inr rfl)).2;have r4:Rp K F S' H':=⟨λa o e=>(r3.obj a o e).keep less rfl,λa h=>r3.frm a (.inl h)⟩;have nm:¬ mt S' F D':=λz=>z.elim (λw=>w Z) nF;cases b with
  |false =>
   refine c (.ref D') (.lst j) H' S' (x1.trans x3) r4 ?_ q3;unfold RepV;exact⟨D',U,rfl,.inl ⟨nm,.inl h3⟩,l3.keep less⟩
  |true =>
   have x5:Ext D H1 (supd S' D' (.lst j)) H':=⟨x3.keep,x3.live,λa h=>by
    by_cases e:a=D'
    ·subst e;exact .inr B
    ·rw[supd_ne e] at h;exact x3.new a h⟩
   have k6:Keep (mt S' λa=>F a\/a=D') H' (mt (supd S' D' (.lst j)) F) H':=⟨λ_ _ _ e=>e,λa h _=>λz=>by
    rcases z with z|z
    ·by_cases e:a=D'
     ·exact h (.inr (.inr e))
     ·rw[supd_ne e] at z;exact h (.inl z)
    ·exact h (.inr (.inl z))⟩
   refine c (.ref D') (.ref D') H' (supd S' D' (.lst j)) (x1.trans x5) ⟨λa o e=>?_,λa h=>⟨(r4.frm a h).1,?_⟩⟩ (by unfold RepV;rfl) (q3 D' Z)
   ·by_cases e1:a=D'
    ·subst e1;rw[aQ6] at e;cases e;exact⟨U,h3,l3.keep k6⟩
    ·rw[supd_ne e1] at e;exact(r3.obj a o e).keep k6 rfl
   ·rw[supd_ne (by rintro rfl;exact nF h)];exact(r4.frm a h).2⟩
def dYes:TD:=λ_ S Q=>Q true S
theorem aZ7:PTs X [] (upT K dYes):=λpins s σ H Q I j=>j.el λF S Γ QD r g q c=>eQ9 pins s σ H Q I (c true H S (Ext.refl _ _) r q)
theorem aQh{L:List Nat}{is:List (Option Nat)}(h:(L.all λi=>decide (is[i]?=some none))=true):∀σ,Free L (capt is σ):=fun σ i hi=>by
 have:=of_decide_eq_true (b7.mp h i hi)
 unfold capt;rw[aL,this]
 rfl
theorem aZg{c:Expr}{t:TD}(h:PTD K X c t):PTs X [c] (upT K t):=eQa h.o
end
end L2
set_option maxHeartbeats 4000000
namespace L2
open PySem PySem.Spec PyProof.Rows
section
variable{prog:au}{w:aN}{s:aj}
def Col(prog:au)(w:aN)(s:aj)(v:ae)(Pv:List ae->Prop):Prop:=∀(A:bj) (E:ae->aj->Prop) (R:List ae->aj->Prop),A.handled=none ->
 (∀vals h' d tk,Pv vals->(∀b o,s.heap.get? b=some o->h'.get? b=some o)->R vals {s with heap:=h',drawn:=d,toks:=tk})->aE (aF prog w) A (collect v) R E s
theorem cJk{a:Addr}{T:String}{o:Obj}{its:List ae}{n:Nat}(hT:T="list"\/T="tuple")(ho:s.heap.get? a=some o)(hc:o.cls=.type T)(hd:o.data=.seq its.toArray n)(hz:its.length<=sizeLine):Col prog w s (.ref a) (·=its):=λA E R _ h =>
 wpAny_collect_seq a hT ho hc hd (λh' k=>by
  have:=h its h' s.drawn s.toks rfl k
  simpa using this) (by simpa using hz)
theorem dZq{a:Addr}{vs:List (Key×ae)}(lo:(a==fj)=false)(hd:s.heap.DictOf (aJr prog w) a vs)(hz:vs.length<=sizeLine):Col prog w s (.ref a) (λvals=>vals.length=vs.length/\∀(j:Nat) (v:ae),vals[j]?=some v->∃(k:Key) (x:ae),vs[j]?=some (k,x)/\dQm k v=true):=λA E R G h=>by
 obtain⟨ep,z⟩:=hd.dictAt;refine PySem.W.kdu_collect (PySem.W.kdl_dict (knd:=aJr prog w) (kvs:=vs) (ep:=ep) lo) G z hz λh' B acc D q=>?_;exact h acc.toList h' s.drawn B ⟨by rw[bn];exact q.1,λj v e=>q.2 j v (by rw[<- aW];exact e)⟩ D
theorem aJ6{A:bj}{E:ae->aj->Prop}{v:ae}{Pv:List ae->Prop}{Q:ae->aj->Prop}(hh:A.handled=none)(col:Col prog w s v Pv)(hz:∀vals,Pv vals->vals.length<=sizeLine)
  (srt:∀(vals:List ae) (h1:bu) (d:Drawn) (tk:Nat),Pv vals->(∀b o,s.heap.get? b=some o->h1.get? b=some o)->aE (aF prog w) A.in1.in1 (cv.«list.sort» ⟨[.ref h1.objs.size],[]⟩) (λfin s'=>fin=.done (.ret .none)/\Q (.ref h1.objs.size) s') E {s with heap:=h1.push (b4 "list" vals.toArray 0),drawn:=d,toks:=tk}) :
  aE (aF prog w) A (call (.builtin "sorted") [v]) Q E s:=by
 refine gf kind_sorted plain_sorted entry_sorted (args_sorted1 _) ?_;unfold cv.«sorted»;refine aa (m:=checkCount "sorted" 1 1 _) (ad ?_);refine aa (col A.in1 _ _ (by simp[hh]) λvals h1 d tk pv kp=>?_)
 refine aa (ju ?_ (hz vals pv));have j:(h1.push (b4 "list" vals.toArray 0)).get? h1.objs.size=some (b4 "list" vals.toArray 0):=ar _ rfl;refine aa (bq (b6 slot_list_sort ⟨_,j,rfl⟩ entry_list_sort ?body (args_list_sort _)))
 case body =>
  refine eB (srt vals h1 d tk pv kp) (λfin s' ⟨e,q⟩=>?_) λ_ _ e=>e;subst e;exact⟨_,rfl,ad ⟨_,rfl,q⟩⟩
theorem bQc{h:bu}{a:Addr}{vs:List ae}{n:Nat}{out:Array ae}(ho:h.get? a=some (b4 "list" vs.toArray n)):(∃c,(h9 h a vs out).get? a=some (b4 "list" out c))/\∀b o,b≠a->h.get? b=some o->(h9 h a vs out).get? b=some o:=by
 unfold h9;obtain⟨B,j⟩:∃B,(h.update a (bU λ_=>(#[]:Array ae))).get? a=some (b4 "list" #[] B):=⟨_,fc ho λ_=>#[]⟩;have D:=cb h a (bU λ_=>(#[]:Array ae));have q:∀b o,(h.update a (bU λ_=>(#[]:Array ae))).get? b=some o->(((h.update a (bU λ_=>(#[]:Array ae))).push (b4 "tuple" vs.toArray 0)).push (b4 "list" #[] 0)).get? b=some o:=λb o e=>ag _ (ag _ e);refine⟨⟨_,fc (q _ _ j) λ_=>out⟩,λb o z e=>?_⟩;have s2:=cb (((h.update a (bU λ_=>(#[]:Array ae))).push (b4 "tuple" vs.toArray 0)).push (b4 "list" #[] 0)) a (bU λ_=>out);exact(s2.2 b z).trans (q b o ((D.2 b z).trans e))
theorem cJl{A:bj}{E:ae->aj->Prop}{a:Addr}{vs:List ae}{ss:List Str}{n:Nat}{P:iJ->aj->Prop}(ho:s.heap.get? a=some (b4 "list" vs.toArray n))(hS:jZ vs ss)(h64:vs.length<=sizeLine)
  (h:∀(out:List ae) (ss':List Str) (h':bu) (c:Nat),jZ out ss'->ss'.Perm ss->sortedS ss'=true->h'.get? a=some (b4 "list" out.toArray c)->(∀b o,b≠a->s.heap.get? b=some o->h'.get? b=some o)->P (.done (.ret .none)) {s with heap:=h'}) :
  aE (aF prog w) A (cv.«list.sort» ⟨[.ref a],[]⟩) P E s:=by
 refine SF.treeK strKind_oneLt ho hS.keysOf (λz q rest e=>keyKind_strs (by rw[<- e];exact hS)) h64 λj D B=>?_
 obtain⟨ss',h1,h2,L⟩:=sorted_out_str hS D B;obtain⟨⟨c,J⟩,G⟩:=bQc (out:=(aT j).map (·.2)) ho;exact h _ ss' _ c h1 h2 L (by rw[J]) G
theorem cJm{A:bj}{E:ae->aj->Prop}{a:Addr}{vs:List ae}{ns:List Int}{n:Nat}{P:iJ->aj->Prop}(ho:s.heap.get? a=some (b4 "list" vs.toArray n))(hI:iC vs ns)(h64:vs.length<=sizeLine)
  (h:∀(out:List ae) (ns':List Int) (h':bu) (c:Nat),iC out ns'->ns'.Perm ns->ns'.Pairwise (·<=·)->h'.get? a=some (b4 "list" out.toArray c)->(∀b o,b≠a->s.heap.get? b=some o->h'.get? b=some o)->P (.done (.ret .none)) {s with heap:=h'}) :
  aE (aF prog w) A (cv.«list.sort» ⟨[.ref a],[]⟩) P E s:=by
 refine SF.treeI ho hI h64 λout ns' h1 h2 z=>?_;obtain⟨⟨c,q⟩,j⟩:=bQc (out:=out) ho;exact h _ ns' _ c h1 h2 z (by rw[q]) j
end
section
variable{X:Cx}{K:Fg}
def Src(K:Fg)(H:Hp)(x:V)(us:List V):Prop:=∃a,x=.ref a/\(SqL K H a us\/SqT K H a us\/∃kvs:List (Key×V),H a=some (.dK kvs)/\us=kvs.map λp=>kV p.1)
theorem bXr:∀{kvs:List (Key×V)}{vs:List (Key×ae)}{vals:List ae},KV kvs vs->vals.length=vs.length->(∀(j:Nat) (v:ae),vals[j]?=some v->∃(k:Key) (x:ae),vs[j]?=some (k,x)/\dQm k v=true)->Vals (kvs.map λp=>kV p.1) vals
 |[],_,vals,.nil,hl,_=>by cases vals with
  |nil=>exact .nil
  |cons _ _=>simp at hl
 |p::kvs,_,vals,.cons (b:=q) D B,hl,h=>by
  cases vals with
  |nil=>simp at hl
  |cons v vals =>
   refine .cons ?_ (bXr B (by simpa using hl) λj v e=>by simpa using h (j+1) v (by simpa using e))
   obtain⟨k,x,e,G⟩:=h 0 v rfl;have J:q=(k,x):=by simpa using e
   have z:p.1=k:=by rw[D.1,J]
   show RelV (kV p.1) v;rw[z];rcases aQj G with⟨i,t,rfl,rfl⟩|⟨y,t,rfl,rfl⟩
   ·exact⟨t,rfl⟩
   ·exact⟨t,rfl⟩
theorem Inv.toks{pins:List (Addr×Obj)}{σ:St}{H:Hp}{s:aj}(I:Inv X pins σ H s){h':bu}(k:∀b o,s.heap.get? b=some o->h'.get? b=some o)(d:Drawn)(tk:Nat):Inv X pins σ H {s with heap:=h',drawn:=d,toks:=tk}:=(I.kept (t':=tk) k).drawn d
theorem Inv.src{pins:List (Addr×Obj)}{σ:St}{H:Hp}{s:aj}(I:Inv X pins σ H s)(hK:X.K=K){x:V}{u:ae}{us:List V}(h:Src K H x us)(r:RelV x u):Col X.prog X.w s u (λvals=>Vals us vals)/\us.length<=sizeLine:=by
 subst hK;obtain⟨a,rfl,h⟩:=h;cases r;rcases h with h|h|⟨G,h,rfl⟩
 ·obtain⟨J,z,⟨o,n,L,O,_,hd⟩,B⟩:=I.list h;have hl:=z.length;exact⟨λA E R D q=>cJk (.inl rfl) L O hd (by lia) A E R D λvals h' d j e k=>q vals h' d j (by rw[e];exact z) k,B⟩
 ·obtain⟨J,z,⟨o,L,O,n,hd⟩,B⟩:=I.tuple h;have hl:=z.length;exact⟨λA E R D q=>cJk (.inr rfl) L O hd (by lia) A E R D λvals h' d j e k=>q vals h' d j (by rw[e];exact z) k,B⟩
 ·obtain⟨B,lo,vs,U,hd⟩:=I.hok a _ h;have hl:G.length=vs.length:=ca U;exact⟨λA E R D q=>dZq lo hd (by lia) A E R D λvals h' d j e k=>q vals h' d j (bXr U e.1 e.2) k,by rw[ah];exact B⟩
def fZ3(K:Fg):List V->Hp->VK->Prop:=λxs H Q=>∃(x:V) (ss:List Str),xs=[x]/\Src K H x (ss.map V.str)/\∀(p:Addr) (out:List Str),H p=none->out.Perm ss->out.Pairwise (λa b=>HT.ltS b a=false)->Q (.ref p) (upd H p (.lst (out.map V.str)))
theorem bZ3:∀{l:List Str},sortedS l=true->l.Pairwise λa b=>HT.ltS b a=false
 |[],_=>.nil
 |[x],_=>bB _ _
 |x::y::l,h=>by
  have h':(!ltCps y.cps.toList x.cps.toList&&risingS y l)=true:=h;rw[aY] at h';have G:=bZ3 (l:=y::l) h'.2;have B:HT.ltS y x=false:=by
   have:=h'.1
   rw[cN,ltCps_eq] at this;exact this
  refine aX.mpr ⟨λz D=>?_,G⟩;rcases aD.mp D with rfl|D
  ·exact B
  ·have j:=(aX.mp G).1 z D;cases e:HT.ltS z x with
   |false=>rfl
   |true =>
    by_cases q:y=x
    ·subst q;rw[j] at e;cases e
    ·have:=HT.ltS_tot B q
     have:=HT.ltS_tr e this
     rw[j] at this;cases this
theorem cJn(hK:X.K=K:=by rfl)(hc:X.calm=true:=by rfl):CallR X (.builtin "sorted") (fZ3 K):=by
 intro pins s σ H xs us Q I r h;obtain⟨x,ss,rfl,J,q⟩:=h;obtain⟨u,rfl,G⟩:=aXx r;obtain⟨col,z⟩:=I.src hK J G;have len:∀{vals:List ae},Vals (ss.map V.str) vals->vals.length=ss.length:=λv=>by have:=v.length;simpa using this.symm
 refine aJ6 (I.ok.hd hc) col (λvals v=>by rw[len v];simpa using z) λvals h1 d j pv kp=>?_
 have D:H h1.objs.size=none:=(I.toks kp d j).hok.fresh (Nat.le_refl _);refine cJl (s:={ s with heap:=h1.push (b4 "list" vals.toArray 0),drawn:=d,toks:=j }) (ar _ rfl) (bJk (H:=H) (ds:=ss) (xs:=ss.map V.str) (by
  clear z q J col G pv len
  induction ss with
  |nil=>exact .nil
  |cons a ss L=>exact .cons rfl L) pv) (by rw[len pv];simpa using z) λout B h' c a1 a2 Y U O=>⟨rfl,?_⟩
 have Z:=I.toks kp d j;obtain⟨v1,v2⟩:=bZg (H:=H) a1;refine⟨.ref h1.objs.size,_,Z.laid (a:=h1.objs.size) (o:=.lst (B.map V.str)) (t':=j) (λb o e=>O b o (Nat.ne_of_lt (aA e)) (ag _ e)) (Nat.le_refl _) ⟨?_,out,c,v1,U⟩,rfl,q _ _ D a2 (bZ3 Y)⟩
 have:=a2.length_eq
 rw[ah,this];simpa using z
def fZ4(K:Fg):List V->Hp->VK->Prop:=λxs H Q=>∃(x:V) (ns:List Int),xs=[x]/\Src K H x (ns.map V.int)/\∀(p:Addr) (out:List Int),H p=none->out.Perm ns->out.Pairwise (·<=·)->Q (.ref p) (upd H p (.lst (out.map V.int)))
theorem cJo(hK:X.K=K:=by rfl)(hc:X.calm=true:=by rfl):CallR X (.builtin "sorted") (fZ4 K):=by
 intro pins s σ H xs us Q I r h;obtain⟨x,ss,rfl,J,q⟩:=h;obtain⟨u,rfl,G⟩:=aXx r;obtain⟨col,B⟩:=I.src hK J G;have len:∀{vals:List ae},Vals (ss.map V.int) vals->vals.length=ss.length:=λv=>by have:=v.length;simpa using this.symm
 refine aJ6 (I.ok.hd hc) col (λvals v=>by rw[len v];simpa using B) λvals h1 d j pv kp=>?_
 have D:H h1.objs.size=none:=(I.toks kp d j).hok.fresh (Nat.le_refl _);refine cJm (s:={s with heap:=h1.push (b4 "list" vals.toArray 0),drawn:=d,toks:=j}) (ar _ rfl) (bQu pv) (by rw[len pv];simpa using B) λout z h' c a1 a2 U O L=>⟨rfl,?_⟩
 have Y:=I.toks kp d j;refine⟨.ref h1.objs.size,_,Y.laid (a:=h1.objs.size) (o:=.lst (z.map V.int)) (t':=j) (λb o e=>L b o (Nat.ne_of_lt (aA e)) (ag _ e)) (Nat.le_refl _) ⟨?_,out,c,aJw a1,O⟩,rfl,q _ _ D a2 U⟩
 have:=a2.length_eq
 rw[ah,this];simpa using B
def fZ5(K:Fg):List V->Hp->VK->Prop:=λxs H Q=>∃(x:V) (us:List V) (ds:List (List Str)),xs=[x]/\Src K H x us/\bi (dT K dS H) us ds/\∀(p:Addr) (idx:List Nat),H p=none->idx.Perm (aI us.length)->(idx.map λi=>ds.getD i []).Pairwise (λa b=>HT.lexS b a=false)->(idx.map λi=>ds.getD i []).Perm ds->Q (.ref p) (upd H p (.lst (idx.map λi=>us.getD i V.non)))
theorem tsOf{pins:List (Addr×Obj)}{σ:St}{H:Hp}{s:aj}(I:Inv X pins σ H s)(hK:X.K=K){h':bu}(k:∀b o,s.heap.get? b=some o->h'.get? b=some o):∀{us:List V}{vs:List ae}{ds:List (List Str)},Vals us vs->bi (dT K dS H) us ds->bi (KS.TS h') vs ds
 |_,_,_,.nil,.nil=>.nil
 |_,_,_,.cons r q,.cons d p=>by
  refine .cons ?_ (tsOf I hK k q p);obtain⟨b,xs,e,B,pp⟩:=d;rw[e] at r;cases r;rw[<- hK] at B;obtain⟨j,D,⟨o,G,z⟩,_⟩:=I.tuple B;exact⟨b,j.toArray,rfl,⟨o,k b o G,z⟩,aXj pp D⟩
theorem cQr{us:List V}{vs:List ae}(p:Vals us vs):∀(idx:List Nat),(∀i∈idx,i<us.length)->Vals (idx.map λi=>us.getD i V.non) (idx.map λi=>vs.getD i ce)
 |[],_=>.nil
 |i::idx,h=>by
  refine .cons ?_ (cQr p idx λj q=>h j (ao _ q));have hi:=h i ak;obtain⟨u,e,r⟩:=p.get (af hi);show RelV (us.getD i V.non) (vs.getD i ce);rw[ai,ai,e,af hi];exact r
theorem cJp(hu:X.A.units+8<cB)(hK:X.K=K:=by rfl)(hc:X.calm=true:=by rfl):CallR X (.builtin "sorted") (fZ5 K):=by
 intro pins s σ H xs us Q I r h;obtain⟨x,ys,ds,rfl,hs,L,q⟩:=h;obtain⟨u,rfl,O⟩:=aXx r;obtain⟨col,hz⟩:=I.src hK hs O;have hl:ys.length=ds.length:=ca L;refine aJ6 (I.ok.hd hc) col (λvals v=>by rw[<- v.length];exact hz) λvals h1 d j pv kp=>?_
 have B:=pv.length;have J:=I.toks kp d j;have G:H h1.objs.size=none:=J.hok.fresh (Nat.le_refl _);refine KS.sort_tupsL (s:={s with heap:=h1.push (b4 "list" vals.toArray 0),drawn:=d,toks:=j}) (ds:=ds) (by show X.A.units+1+1<_;lia) (ar _ rfl) (tsOf J hK (λb o e=>ag _ e) pv L) (by lia) λidx h' c z Z Y g U=>⟨rfl,?_⟩
 have D:∀i∈idx,i<ys.length:=λi hi=>by have:=ax.mp (z.mem_iff.mp hi);lia
 have il:idx.length=vals.length:=by have:=z.length_eq;simpa using this
 refine⟨.ref h1.objs.size,_,J.laid (a:=h1.objs.size) (o:=.lst (idx.map λi=>ys.getD i V.non)) (t':=j) (λb o e=>U b o (Nat.ne_of_lt (aA e)) (ag _ e)) (Nat.le_refl _) ⟨?_,_,c,cQr pv idx D,g⟩,rfl,q _ idx G (by rw[B];exact z) Z Y⟩
 rw[ah];lia
end
section
variable{κ:Type}[DecidableEq κ]
def valV(kvs:List (κ×V))(k:κ):Option V:=(kvs.find? λkv=>decide (kv.1=k)).map (·.2)
def putK(kvs:List (κ×V))(k:κ)(v:V):List (κ×V) :=
 if (kvs.any λkv=>decide (kv.1=k))=true then kvs.map (λkv=>if kv.1=k then (kv.1,v) else kv) else kvs++[(k,v)]
theorem bZi{p:κ×V}{r:List (κ×V)}{k:κ}(e:p.1=k):valV (p::r) k=some p.2:=by simp[valV,dg,e]
theorem bZj{p:κ×V}{r:List (κ×V)}{k:κ}(e:¬ p.1=k):valV (p::r) k=valV r k:=by simp[valV,dg,e]
theorem cQs(k:κ):∀kvs:List (κ×V),(kvs.any λkv=>decide (kv.1=k))=(valV kvs k).isSome
 |[]=>rfl
 |p::r=>by
  rw[jv]
  by_cases e:p.1=k
  ·simp only[bZi e,decide_eq_true e,Bool.true_or,Option.isSome_some]
  ·rw[bZj e,decide_eq_false e,Bool.false_or];exact cQs k r
theorem bJq(kvs:List (κ×V))(k:κ)(v:V):(putK kvs k v).length<=kvs.length+1:=by
 unfold putK
 split
 ·rw[ah];omega
 ·rw[ap,aK,cu];omega
theorem RelO.isSome_eq{o:Option V}{u:Option ae}(r:RelO o u):o.isSome=u.isSome:=by
 cases o with
 |none=>cases u with
  |none=>rfl
  |some _=>exact(show False from r).elim
 |some _=>cases u with
  |none=>exact(show False from r).elim
  |some _=>rfl
theorem RelO.getD{o:Option V}{u:Option ae}{d:V}{d':ae}(r:RelO o u)(rd:RelV d d'):RelV (o.getD d) (u.getD d'):=by
 cases o with
 |none=>cases u with
  |none=>exact rd
  |some _=>exact(show False from r).elim
 |some _=>cases u with
  |none=>exact(show False from r).elim
  |some _=>exact r
end
section
variable{X:Cx}{pins:List (Addr×Obj)}{σ:St}{H:Hp}{s:aj}{a:Addr}{y v:V}{u r:ae}{o:Option V}{A:bj}{E:ae->aj->Prop}
theorem Inv.big(I:Inv X pins σ H s):fj<s.heap.objs.size:=by
 have h:bC<s.heap.objs.size:=(I.mod.glob.keeps I.bk).lt;exact Nat.lt_trans (by decide) h
theorem cJq{h':bu}{t':Nat}{ob:HO}(I:Inv X pins σ H s)(mu:Mut (H a))(hs:c9 a s.heap h')(he:∃q,h'.get? a=some q)(new:ObjOk X.prog X.w (upd H a ob) h' a ob) :
  Inv X pins σ (upd H a ob) {s with heap:=h',toks:=t'} :=
 I.write (x:=a) (e:=a) mu (.inl rfl) (λb q j z=>(hs.2 b j).trans z) he new
end
structure M2(X:Cx)(o:Expr)(m:Str)(apos:Pos)(e f:Expr)(cpos:Pos):Prop where
 base:eM o m X.env (eval o X.env)=eval o X.env
 few:((cO cpos (aC [e,f] X.env)).all (λx=>!x.1) && (io cpos (fy [] X.env)).all (λx=>x.1.isSome)
  && decide (([e,f]:List Expr).length+([]:List fZ).length+(if ([]:List fZ).isEmpty then 0 else 1)<30))=true
 line:(apos.endLine==cpos.line)=true
 trees:cO cpos (aC [e,f] X.env)=[(false,eval e X.env),(false,eval f X.env)]
section
variable{X:Cx}{K:Fg}{pos:Pos}{k:Nat}
section
variable{elt target iter:Expr}{ifs:List Expr}{gs:List fk}{scope:Scope}{N':List Str}{is:List (Option Nat)}{wi:ID}{g:TG}{gd:GD}{tt:TD}{tv:Addr->TB}{tb:BD}{oc:Option Str}{m:ae->Env->Sem Unit}{b:Bool}
theorem aZa(L L':List Nat)(hcalm:X.calm=true)(hN:X.N.Nodup)
  (hturn:∀it acc env,eS (.ListComp elt (⟨target,iter,ifs,0⟩::gs) scope pos) 0 it acc env=aQw target ifs iter.pos (m acc env) (.compLoop (.ListComp elt (⟨target,iter,ifs,0⟩::gs) scope pos) 0 it acc env) it env)
  (cp:Cap X.N scope N' is) (hL:∀σ,Free L (capt is σ)) (hi:PID K X target iter wi) (hgd:CG K L L' g gd)
  (hg:∀cl C fp s H,PG (aQa X N' scope cl C fp s H oc) target g) (ht:∀cl C fp s H,PTs (aQa X N' scope cl C fp s H oc) ifs (upT K tt)) (hbd:bXq K L' tv tb) (hb:∀cl C fp s H D,PB (aQa X N' scope cl C fp s H oc) (m (.ref D) (gM scope cl C X.env)) (tv D))
  (hcf:∀n acc,e9 n scope.names acc=ocl oc n acc:=by intro _ _;rfl) (hpc:∀h,f6 h scope.names=ohp oc h:=by intro _;rfl)
  (hkind:scope.kind=.function:=by rfl) (hcell:∀y∈scope.names,y.2=.cell->oc=some y.1:=by decide +kernel)
  (hu:∀y∈scope.names,scope.names.lookup y.1=some y.2:=by decide +kernel) (hoc:∀x,oc=some x->scope.names.lookup x=some .cell:=by intro x h;cases h <;> rfl)
  (hVb:okV scope.names X.env.scope.names=true:=by first|rfl|kernel_rfl)
  (hs:∀x,cq iter X.env x=pure x:=by intro _;rfl) :
  PD K X (.ListComp elt (⟨target,iter,ifs,0⟩::gs) scope pos) (eZi b is wi gd tt tb):=.of (dZ5 hcalm hN hturn cp hi.o hg ht hb hcf hpc hkind hcell hu hoc hVb hs) (cJj hL hgd hbd)
theorem bJr{x:Str}{i:Nat}{pos' spos:Pos}(hix:X.N[i]?=some x)(hx:Loc X.env.scope x)(L L':List Nat)(hcalm:X.calm=true)(hN:X.N.Nodup)
  (hturn:∀it acc env,eS (.ListComp elt (⟨target,iter,ifs,0⟩::gs) scope pos) 0 it acc env=aQw target ifs iter.pos (m acc env) (.compLoop (.ListComp elt (⟨target,iter,ifs,0⟩::gs) scope pos) 0 it acc env) it env)
  (cp:Cap X.N scope N' is) (hL:∀σ,Free L (capt is σ)) (hi:PID K X target iter wi) (hgd:CG K L L' g gd)
  (hg:∀cl C fp s H,PG (aQa X N' scope cl C fp s H oc) target g) (ht:∀cl C fp s H,PTs (aQa X N' scope cl C fp s H oc) ifs (upT K tt)) (hbd:bXq K L' tv tb) (hb:∀cl C fp s H D,PB (aQa X N' scope cl C fp s H oc) (m (.ref D) (gM scope cl C X.env)) (tv D))
  (hcf:∀n acc,e9 n scope.names acc=ocl oc n acc:=by intro _ _;rfl) (hpc:∀h,f6 h scope.names=ohp oc h:=by intro _;rfl)
  (hkind:scope.kind=.function:=by rfl) (hcell:∀y∈scope.names,y.2=.cell->oc=some y.1:=by decide +kernel)
  (hu:∀y∈scope.names,scope.names.lookup y.1=some y.2:=by decide +kernel) (hoc:∀x,oc=some x->scope.names.lookup x=some .cell:=by intro x h;cases h <;> rfl)
  (hVb:okV scope.names X.env.scope.names=true:=by first|rfl|kernel_rfl)
  (hs:∀x,cq iter X.env x=pure x:=by intro _;rfl)
  (hsw:g9 (.ListComp elt (⟨target,iter,ifs,0⟩::gs) scope pos) (some (.Name x pos')) spos.line X.env=pure true:=by first|rfl|kernel_rfl) (hf:X.fn x=true\/X.env.scope.names.lookup x=some .local:=by first|exact .inl rfl|exact .inr rfl|assumption) :
  PSD K X (.Assign [.Name x pos'] (.ListComp elt (⟨target,iter,ifs,0⟩::gs) scope pos) spos) (dAsg (eZi b is wi gd tt tb) (aQq i)):=.of (eQc hix hx hcalm hN hturn cp hi.o hg ht hb hcf hpc hkind hcell hu hoc hVb hs hsw hf) λU σ H B=>B.el λF S Γ E r z q c=>by
 refine cJj (tt:=tt) (b:=b) hL hgd hbd σ H _ ⟨F,S,Γ,_,r,z,q,λv d H1 O j G v1 J=>?_⟩;exact c.nx _ O _ H1 j G ((z.ext j).set v1 i) J
end
abbrev SpD:=List D->Sto->DK->Prop
def spU(K:Fg)(sp:SpD):Sp:=λvs H Q _=>∃F S ds QD,Rp K F S H/\RepL K (mt S F) H ds vs/\sp ds S QD/\Cn K F S H QD Q
theorem aQ4{x:Str}{ps:List Str}{sp:SpD}{p:Pos}{e:Expr}{es:List Expr}{t:AD}(Df':Df X.prog X.w X.K X.mg X.base k x ps (spU K sp))(hr:Room k X.A)(hg:Gl X x)(ha:PAD K X (e::es) t)
  (hdb:(x==("__debug__":Str))=false:=by decide) (he:aC (e::es) X.env=(false,eval e X.env)::aC es X.env:=by rfl) (hpl:(cO pos (aC es X.env)).any (·.1)=false:=by rfl) :
  PD K X (.Call (.Name x p) (e::es) [] pos) (dCB sp t):=.of (dZ3 Df' hr hg ha.o hdb he hpl) fun σ H Q j=>j.el λF S Γ QD r g q c =>
 ⟨F,S,Γ,_,r,g,q,λvs ds H1 G z B v1 D=>by
  show spU K sp (vs++[]) H1 Q E0;rw[cr];exact⟨F,G,ds,QD,B,v1,D,Cn.shift c z⟩⟩
inductive Frz(S S':Sto):D->D->Prop where
 |same (d:D):Frz S S' d d
 |ref {a:Addr}{xs ys:List D}(h:S a=some (.lst xs)) (h':S' a=none) (l:Frz S S' (.tup xs) (.tup ys)):Frz S S' (.ref a) (.lst ys)
 |nil:Frz S S' (.tup []) (.tup [])
 |cons {d e:D}{ds es:List D}(h:Frz S S' d e) (l:Frz S S' (.tup ds) (.tup es)):Frz S S' (.tup (d::ds)) (.tup (e::es))
theorem dJ7{F:Am}{S S':Sto}{H:Hp}(r:Rp K F S H)(hs:∀a o,S' a=some o->S a=some o):∀{d e:D},Frz S S' d e->(∀v,RepV K (mt S F) H d v->RepV K (mt S' F) H e v)/\(∀ds es,d=.tup ds->e=.tup es->∀vs,RepL K (mt S F) H ds vs->RepL K (mt S' F) H es vs):=by
 intro d e h;have kp:Keep (mt S F) H (mt S' F) H:=(Ext.less (H:=H) hs).kp
 induction h with
 |same d=>exact⟨λv h=>h.keep kp,λds es e1 e2 vs l=>by cases e1;cases e2;exact l.keep kp⟩
 |@ref a xs ys h h' l O =>
  refine⟨λv j=>?_,λds es e1=>by cases e1⟩
  rw[rref j];obtain⟨us,U,J⟩:=r.obj a _ h;unfold RepV;refine⟨a,us,rfl,.inl ⟨λz=>?_,.inl U⟩,O.2 xs ys rfl rfl us J⟩;rcases z with z|z
  ·exact z h'
  ·rw[(r.frm a z).2] at h;cases h
 |nil=>exact⟨λv h=>h.keep kp,λds es e1 e2 vs l=>by cases e1;cases e2;exact l.keep kp⟩
 |@cons d e ds es h l B q =>
  have ls:∀vs,RepL K (mt S F) H (d::ds) vs->RepL K (mt S' F) H (e::es) vs:=λvs l=>by
   unfold RepL at l ⊢;obtain⟨v,vs,rfl,G,L⟩:=l;exact⟨v,vs,rfl,B.1 v G,q.2 ds es rfl rfl vs L⟩
  refine⟨λv j=>?_,λZ Y e1 e2 vs l=>by cases e1;cases e2;exact ls vs l⟩
  unfold RepV at j ⊢;obtain⟨a,us,rfl,t,l⟩:=j;exact⟨a,us,rfl,t.keep kp,ls us l⟩
def rtD(Q:DK):DK:=λd S=>∃d' S',(∀a o,S' a=some o->S a=some o)/\Frz S S' d d'/\Q d' S'
theorem aQg{Q:DK}{d:D}{S:Sto}(h:Q d S):rtD Q d S:=⟨d,S,λ_ _ e=>e,.same d,h⟩
theorem cJr{Q:DK}{d:D}{S S':Sto}(hs:∀a o,S' a=some o->S a=some o)(h:Q d S'):rtD Q d S:=⟨d,S',hs,.same d,h⟩
theorem dJ8{Q:DK}{a:Addr}{xs:List D}{S S':Sto}(h:S a=some (.lst xs))(hs:∀a o,S' a=some o->S a=some o)(h':S' a=none)(q:Q (.lst xs) S'):rtD Q (.ref a) S:=⟨.lst xs,S',hs,.ref h h' (.same _),q⟩
def dZr(Q:DK):EndsD:={nx:=λ_ S=>rtD Q .non S,rt:=rtD Q}
def bZ4(N:List Str)(ds:List D):Gm:=ds.map some++fP (N.length-ds.length) none
theorem cQt{M:Am}{H:Hp}{N:List Str}{ds:List D}{vs:List V}(l:RepL K M H ds vs):RepG K M H (bZ4 N ds) (start N vs):=by
 have j:∀n,RepG K M H (fP n none) (fP n none):=λn=>by
  induction n with
  |zero=>exact rfl
  |succ n q=>exact⟨none,_,rfl,q⟩
 have gen:∀{ds:List D}{vs:List V}{g:Gm}{σ:St},RepL K M H ds vs->RepG K M H g σ->RepG K M H (ds.map some++g) (vs.map some++σ):=by
  intro ds
  induction ds with
  |nil=>intro vs g σ l h;unfold RepL at l;subst l;exact h
  |cons d ds q =>
   intro vs g σ l h;unfold RepL at l;obtain⟨v,vs,rfl,r,l⟩:=l;exact⟨v,_,rfl,r,q l h⟩
 unfold bZ4 start;rw[l.length];exact gen l (j _)
theorem aZl{P:au}{w:aN}{mg:Str->Option ae}{base:bu}{x:Str}{st:Stmt}{N ps:List Str}{sp:SpD}(T:Tx K mg x st)(S:FnScope N ps (aQ5 st))
  (b:∀{f:Addr}{fd:d8},Fun K x x st f fd->Binds K fd ps []) (len:∀ds S Q,sp ds S Q->ds.length=ps.length)
  (h:∀ (f:Addr) (cdv:ae) (A:bj) (outer:List Env) (s:aj) (H:Hp) (E:XK),Room k (A.deeper (jp x (aQ5 st) s.heap.objs.size f cdv)) ->
   ∃t,PSsD K (cxOf CX0 P w K mg base N x (aQ5 st) f cdv A outer s H E).nox (aZj st) t/\∀ds S Q,sp ds S Q->t (dZr Q) (bZ4 N ds) S):Df P w K mg base (k+1) x ps (spU K sp):=by
 refine T.df b λ{f fd} Z=>Z.ok S (λvs H Q E B=>by obtain⟨F,S,ds,QD,r,l,j,c⟩:=B;rw[l.length];exact len ds S QD j) (λcdv A outer s H vs Q E' L B=>?_)
 obtain⟨F,S,ds,QD,r,l,j,c⟩:=B;obtain⟨t,h1,h2⟩:=h f cdv A outer s H E' L;have fin:∀v d H' S',Ext S H S' H'->Rp K F S' H'->RepV K (mt S' F) H' d v->rtD QD d S'->Q v H':=λv d H' S' D z v1 J=>by
  obtain⟨U,Y,G,O,q⟩:=J;exact c v U H' Y (D.trans (Ext.less G)) (z.less G) ((dJ7 z G O).1 v v1) q
 exact⟨_,h1.o,F,S,bZ4 N ds,dZr QD,r,cQt l,h2 ds S QD j,fun Γ' S' σ' H' D z g1 q=>fin .non .non H' S' D z (by unfold RepV;rfl) q,fin,λ_ _ _ _ _ _ _ q=>q.elim,λ_ _ _ _ _ _ _ q=>q.elim⟩
theorem fZ6{M:Am}{H:Hp}:∀{as:List Int},RepL K M H (as.map D.int) (as.map V.int)
 |[]=>RepL.nil
 |a::as=>RepL.cons (by unfold RepV;rfl) fZ6
def dMt(rd:D->List D->Sto->DK->Prop)(ck:D->Sto->Prop)(to:ED)(t:AD):ED:=fun Γ S Q=>to Γ S λo S1=>ck o S1/\t Γ S1 λds S2=>rd o ds S2 Q
def MtD(K:Fg)(T:String)(r:V->List V->Hp->VK->Prop)(rd:D->List D->Sto->DK->Prop)(ck:D->Sto->Prop):Prop :=
 (∀F S H d x,Rp K F S H->RepV K (mt S F) H d x->ck d S->tyV K T x H)/\∀F S H d ds x vs Q QD,Rp K F S H->RepV K (mt S F) H d x->RepL K (mt S F) H ds vs->rd d ds S QD->Cn K F S H QD Q->r x vs H Q
theorem e_bm{T id:String}{name:Str}{r:V->List V->Hp->VK->Prop}{rd:D->List D->Sto->DK->Prop}{ck:D->Sto->Prop}{o e:Expr}{es:List Expr}{to:ED}{t:AD}{apos cpos:Pos}(M:MtD K T r rd ck)
  (pa:PlainAttrs T) (slot:Slot T name id) (hty:typeOf (.builtin id)=pure (.type "method_descriptor")) (hm:MtR X id r) (ho:PD K X o to) (ha:PAD K X (e::es) t) (hK:X.K=K:=by rfl)
  (hbase:eM o name X.env (eval o X.env)=eval o X.env:=by rfl)
  (hfew:((cO cpos (aC (e::es) X.env)).all (λx=>!x.1) && (io cpos (fy [] X.env)).all (λx=>x.1.isSome)
   && decide ((e::es).length+([]:List fZ).length+(if ([]:List fZ).isEmpty then 0 else 1)<30))=true:=by rfl)
  (hline:(apos.endLine==cpos.line)=true:=by rfl) (hs:aC (e::es) X.env=(false,eval e X.env)::aC es X.env:=by rfl) (hplain:(cO cpos (aC es X.env)).any (·.1)=false:=by rfl) :
  PD K X (.Call (.Attribute o name apos) (e::es) [] cpos) (dMt rd ck to t):=by
 subst hK;exact .of (fXp pa slot hty hm ho.o ha.o hbase hfew hline hs hplain) fun σ H Q J=>J.el λF S Γ QD r g q c =>
  ⟨F,S,Γ,_,r,g,q,λv d H1 G z B v1 ⟨Y,U⟩=>⟨M.1 F G H1 d v B v1 Y,F,G,Γ,_,B,g.ext z,U,λvs ds H2 Z j L v2 O=>M.2 F Z H2 d ds v vs Q QD L (v1.ext j) v2 O (Cn.shift c (z.trans j))⟩⟩
def ckL(d:D)(S:Sto):Prop:=match d with
 |.ref a=>∃xs,S a=some (.lst xs)
 |_=>False
theorem ty_L{F:Am}{S:Sto}{H:Hp}{d:D}{x:V}(r:Rp K F S H)(h:RepV K (mt S F) H d x)(c:ckL d S):tyV K "list" x H:=by
 cases d with
 |ref a =>
  obtain⟨xs,j⟩:=c;rw[rref h];obtain⟨us,q,_⟩:=r.obj a _ j;exact .inl ⟨rfl,us,SqL.of q⟩
 |_=>exact c.elim
theorem Cn.write{F:Am}{S:Sto}{H:Hp}{QD:DK}{Q:VK}(c:Cn K F S H QD Q)(r:Rp K F S H){a:Addr}{xs ys:List D}{us ws:List V}(hS:S a=some (.lst xs))(l:RepL K (mt S F) H ys ws){d:D}{v:V}(hv:RepV K (mt S F) H d v)(q:QD d (supd S a (.lst ys))):Q v (upd H a (.lst ws)):=by
 have j:S a≠none:=by rw[hS];exact λz=>by cases z
 have x:Ext S H (supd S a (.lst ys)) (upd H a (.lst ws)):=Ext.write j;exact c v d _ _ x (r.write j ⟨ws,aQ8,l.ext x⟩) (hv.ext x) q
def appD:D->List D->Sto->DK->Prop:=λo ds S Q=>match o,ds with
 |.ref a,[y]=>∃xs,S a=some (.lst xs)/\xs.length<sizeLine/\Q .non (supd S a (.lst (xs++[y])))
 |_,_=>False
theorem fZ7:MtD K "list" cXf appD ckL:=⟨λF S H d x r h c=>ty_L r h c,λF S H d ds x vs Q QD r h l q c=>by
 match d,ds,q with
 |.ref a,[y],⟨xs,z,D,q⟩ =>
  obtain⟨v,rfl,B⟩:=l.one;obtain⟨us,G,j⟩:=r.obj a _ z;rw[rref h];exact⟨a,us,v,rfl,rfl,G,by rw[j.length];exact D,c.write r (us:=us) z (j.app (RepL.cons B RepL.nil)) (by unfold RepV;rfl) q⟩⟩
def cJs:D->List D->Sto->DK->Prop:=λo ds S Q=>match o,ds with
 |.ref a,[.int i]=>∃xs j y,S a=some (.lst xs)/\i=(j:Nat)/\(j:Nat)<2^63/\xs[(j:Nat)]?=some y/\Q y (supd S a (.lst (xs.eraseIdx j)))
 |_,_=>False
theorem dZs:MtD K "list" dXm cJs ckL:=⟨λF S H d x r h c=>ty_L r h c,λF S H d ds x vs Q QD r h l q c=>by
 match d,ds,q with
 |.ref a,[.int i],⟨xs,j,y,D,hi,Y,L,q⟩ =>
  obtain⟨v,rfl,J⟩:=l.one;obtain⟨us,O,B⟩:=r.obj a _ D;obtain⟨z,e1,G⟩:=B.get L;rw[rref h,rint J];have U:j<us.length:=by
   rcases Nat.lt_or_ge j us.length with z|z
   ·exact z
   ·rw[cx z] at e1;cases e1
  have Z:seqIndex? i us.length=some j:=by
   subst hi
   have:ixN us.length (j:Int)=some j:=by unfold ixN;rw[if_pos (by lia),if_pos (by lia),b5]
   exact(bJ6 this).1
  exact⟨a,us,i,j,z,rfl,rfl,O,by lia,by subst hi;exact_mod_cast Y,Z,e1,c.write r (us:=us) D (B.erase j) G q⟩⟩
theorem bZk{o e:Expr}{to:ED}{t:AD}{apos cpos:Pos}(ho:PD K X o to)(ha:PAD K X [e] t)(hK:X.K=K:=by rfl)
  (hbase:eM o "append" X.env (eval o X.env)=eval o X.env:=by rfl)
  (hfew:((cO cpos (aC [e] X.env)).all (λx=>!x.1) && (io cpos (fy [] X.env)).all (λx=>x.1.isSome)
   && decide (([e]:List Expr).length+([]:List fZ).length+(if ([]:List fZ).isEmpty then 0 else 1)<30))=true:=by rfl)
  (hline:(apos.endLine==cpos.line)=true:=by rfl) (hs:aC [e] X.env=(false,eval e X.env)::aC [] X.env:=by rfl) (hplain:(cO cpos (aC [] X.env)).any (·.1)=false:=by rfl) :
  PD K X (.Call (.Attribute o "append" apos) [e] [] cpos) (dMt appD ckL to t):=e_bm fZ7 gE PySem.F.slot_list_append PySem.F.type_list_append bXe ho ha hK hbase hfew hline hs hplain
theorem eZj{o e:Expr}{to:ED}{t:AD}{apos cpos:Pos}(ho:PD K X o to)(ha:PAD K X [e] t)(hK:X.K=K:=by rfl)
  (hbase:eM o "pop" X.env (eval o X.env)=eval o X.env:=by rfl)
  (hfew:((cO cpos (aC [e] X.env)).all (λx=>!x.1) && (io cpos (fy [] X.env)).all (λx=>x.1.isSome)
   && decide (([e]:List Expr).length+([]:List fZ).length+(if ([]:List fZ).isEmpty then 0 else 1)<30))=true:=by rfl)
  (hline:(apos.endLine==cpos.line)=true:=by rfl) (hs:aC [e] X.env=(false,eval e X.env)::aC [] X.env:=by rfl) (hplain:(cO cpos (aC [] X.env)).any (·.1)=false:=by rfl) :
  PD K X (.Call (.Attribute o "pop" apos) [e] [] cpos) (dMt cJs ckL to t):=e_bm dZs gE PySem.F.slot_list_pop PySem.F.type_list_pop dZ0 ho ha hK hbase hfew hline hs hplain
def ckS(d:D)(S:Sto):Prop:=match d with
 |.str _=>True
 |_=>False
def fZ8(K:Fg):V->List V->Hp->VK->Prop:=λx vs H Q=>∃z y us ss,x=.str z/\vs=[y]/\(∃a,y=.ref a/\SqL K H a us)/\bi (dS H) us ss/\(ss.map (·.length)).sum+ss.length*z.length<=16777216/\Q (.str (Txt.join z ss)) H
theorem eZk(hK:X.K=K:=by rfl):MtR X "str.join" (fZ8 K):=by
 subst hK;intro pins s σ H x xs v us Q I B rs h;obtain⟨z,y,ws,ss,rfl,rfl,⟨a,rfl,sq⟩,p,G,q⟩:=h;obtain⟨t,rfl⟩:=B;obtain⟨u,rfl,ru⟩:=rs.one;cases ru;obtain⟨D,r,pl,_⟩:=I.list sq;exact join_list pl.isList (bJk p r) G λj k=>⟨.str _,H,I.tok k,⟨j,rfl⟩,q⟩
def fZ9:D->List D->Sto->DK->Prop:=λo ds S Q=>match o,ds with
 |.str z,[d]=>∃ss,lsIs S d (ss.map D.str)/\(ss.map (·.length)).sum+ss.length*z.length<=16777216/\Q (.str (Txt.join z ss)) S
 |_,_=>False
theorem eZl:MtD K "str" (fZ8 K) fZ9 ckS:=⟨λF S H d x r h c=>by
 cases d with
 |str z=>rw[rstr h];exact rfl
 |_=>exact c.elim,λF S H d ds x vs Q QD r h l q c=>by
 match d,ds,q with
 |.str z,[d],⟨ss,h1,D,q⟩ =>
  obtain⟨v,rfl,j⟩:=l.one;obtain⟨a,us,rfl,sq,B⟩:=lsIs.sl r j h1;rw[rstr h];exact⟨z,_,us,ss,rfl,rfl,⟨a,rfl,sq⟩,aJ5 B,D,c.str r q⟩⟩
theorem fZa{o e:Expr}{to:ED}{t:AD}{apos cpos:Pos}(ho:PD K X o to)(ha:PAD K X [e] t)(hK:X.K=K:=by rfl)
  (hbase:eM o "join" X.env (eval o X.env)=eval o X.env:=by rfl)
  (hfew:((cO cpos (aC [e] X.env)).all (λx=>!x.1) && (io cpos (fy [] X.env)).all (λx=>x.1.isSome)
   && decide (([e]:List Expr).length+([]:List fZ).length+(if ([]:List fZ).isEmpty then 0 else 1)<30))=true:=by rfl)
  (hline:(apos.endLine==cpos.line)=true:=by rfl) (hs:aC [e] X.env=(false,eval e X.env)::aC [] X.env:=by rfl) (hplain:(cO cpos (aC [] X.env)).any (·.1)=false:=by rfl) :
  PD K X (.Call (.Attribute o "join" apos) [e] [] cpos) (dMt fZ9 ckS to t):=e_bm eZl PySem.F.plainAttrs_str PySem.F.slot_str_join PySem.F.type_str_join (eZk hK) ho ha hK hbase hfew hline hs hplain
end
end L2
set_option maxHeartbeats 1000000
namespace L2
open PySem PySem.Spec PyProof.Rows
def leS(a b:Str):Bool:=!HT.ltS b a
def leT(a b:List Str):Bool:=!HT.lexS b a
theorem bZl:∀a:List Str,HT.lexS a a=false
 |[]=>rfl
 |x::xs=>by rw[HT.lexS_cons,if_pos rfl,bZl xs]
theorem fZb(a b c:Str)(h:leS a b=true)(h':leS b c=true):leS a c=true:=by
 unfold leS at *
 rw[cN] at *
 cases e:HT.ltS c a with
 |false=>rfl
 |true =>
  by_cases j:b=a
  ·subst j;rw[h'] at e;cases e
  ·have:=HT.ltS_tr e (HT.ltS_tot h j)
   rw[h'] at this;cases this
theorem eZm(a b:Str):(leS a b||leS b a)=true:=by
 unfold leS;cases e:HT.ltS b a with
 |false=>rfl
 |true=>rw[HT.ltS_as e];rfl
theorem dZt{a b:Str}(h:leS a b=true)(h':leS b a=true):a=b:=by
 unfold leS at *
 rw[cN] at *
 exact aR λn=>by
  have:=HT.ltS_tot h (λz=>n z.symm)
  rw[h'] at this;cases this
theorem fZc(a b c:List Str)(h:leT a b=true)(h':leT b c=true):leT a c=true:=by
 unfold leT at *
 rw[cN] at *
 cases e:HT.lexS c a with
 |false=>rfl
 |true =>
  by_cases j:b=a
  ·subst j;rw[h'] at e;cases e
  ·have:=HT.lexS_tr e (HT.lexS_tot h j)
   rw[h'] at this;cases this
theorem eZn(a b:List Str):(leT a b||leT b a)=true:=by
 unfold leT;cases e:HT.lexS b a with
 |false=>rfl
 |true=>rw[HT.lexS_as e];rfl
theorem dZu{a b:List Str}(h:leT a b=true)(h':leT b a=true):a=b:=by
 unfold leT at *
 rw[cN] at *
 exact aR λn=>by
  have:=HT.lexS_tot h (λz=>n z.symm)
  rw[h'] at this;cases this
def srS(l:List Str):List Str:=l.mergeSort leS
def srT(l:List (List Str)):List (List Str):=l.mergeSort leT
def srI(l:List Int):List Int:=l.mergeSort λa b=>decide (a<=b)
theorem aZ4(l:List Str):(srS l).Perm l:=iA _ _
theorem aZ5(l:List (List Str)):(srT l).Perm l:=iA _ _
theorem bZm(l:List Int):(srI l).Perm l:=iA _ _
theorem dJ9(l:List Str):(srS l).Pairwise λa b=>leS a b=true:=gF fZb eZm l
theorem dJa(l:List (List Str)):(srT l).Pairwise λa b=>leT a b=true:=gF fZc eZn l
theorem dJb(l:List Int):(srI l).Pairwise λa b=>decide (a<=b)=true:=gF (le:=λa b=>decide (a<=b)) (λa b c h h'=>decide_eq_true (Int.le_trans (of_decide_eq_true h) (of_decide_eq_true h'))) (λa b=>by
 rcases Int.le_total a b with h|h
 ·rw[decide_eq_true h];rfl
 ·rw[decide_eq_true h,Bool.or_true]) l
theorem fZd{l out:List Str}(p:out.Perm l)(h:out.Pairwise λa b=>HT.ltS b a=false):out=srS l :=
 (p.trans (aZ4 l).symm).eq_of_pairwise (λ_ _ _ _ h h'=>dZt h h') (h.imp λh=>by unfold leS;rw[h];rfl) (dJ9 l)
theorem eZo{l out:List (List Str)}(p:out.Perm l)(h:out.Pairwise λa b=>HT.lexS b a=false):out=srT l :=
 (p.trans (aZ5 l).symm).eq_of_pairwise (λ_ _ _ _ h h'=>dZu h h') (h.imp λh=>by unfold leT;rw[h];rfl) (dJa l)
theorem fZe{l out:List Int}(p:out.Perm l)(h:out.Pairwise (·<=·)):out=srI l :=
 (p.trans (bZm l).symm).eq_of_pairwise (λ_ _ _ _ h h'=>Int.le_antisymm (of_decide_eq_true h) (of_decide_eq_true h')) (h.imp λh=>decide_eq_true h) (dJb l)
section
variable{X:Cx}{K:Fg}{pos:Pos}{k:Nat}{e:Expr}{t:AD}{p:Pos}
def rSum(K:Fg):List V->Hp->VK->Prop:=λxs H Q=>∃(x:V) (ns:List Int),xs=[x]/\(∃a,x=.ref a/\SqL K H a (ns.map V.int))/\Q (.int ns.sum) H
theorem dZv(hK:X.K=K:=by rfl)(hc:X.calm=true:=by rfl):CallR X (.builtin "sum") (rSum K):=by
 subst hK;intro pins s σ H xs us Q I r h;obtain⟨x,ns,rfl,⟨a,rfl,sq⟩,q⟩:=h;obtain⟨u,rfl,rx⟩:=aXx r;cases rx;obtain⟨D,B,pl,J⟩:=I.list sq;have hi:=bQu B;obtain⟨xs,j⟩:=hi.allInts.items;have hl:=pl.isList;rw[j] at hl;refine sum_intListG (I.ok.hd hc) hl λh' z t' G=>?_;have e:preSum (numAt xs) xs.size=ns.sum:=by
  have h1:numsOf (intItems xs).toList=ns:=by rw[<- j];exact hi.numsOf
  rw[nums_intItems] at h1;rw[preSum_eq,bN (by simp),h1]
 rw[e];exact⟨.int ns.sum,H,I.kept (t':=z) G,⟨t',rfl⟩,q⟩
theorem bJs{M:Am}{H:Hp}:∀{as:List Int}{xs:List V},RepL K M H (as.map D.int) xs->xs=as.map V.int
 |[],xs,h=>by rw[fY] at h;unfold RepL at h;exact h
 |a::as,xs,h=>by
  rw[aU] at h;unfold RepL at h;obtain⟨v,vs,rfl,r,l⟩:=h;unfold RepV at r;rw[r,bJs l];rfl
theorem cJt{M:Am}{H:Hp}:∀{as:List Int},RepL K M H (as.map D.int) (as.map V.int)
 |[]=>RepL.nil
 |a::as=>RepL.cons (by unfold RepV;rfl) cJt
theorem cJu{M:Am}{H:Hp}:∀{as:List Str}{xs:List V},RepL K M H (as.map D.str) xs->xs=as.map V.str
 |[],xs,h=>by rw[fY] at h;unfold RepL at h;exact h
 |a::as,xs,h=>by
  rw[aU] at h;unfold RepL at h;obtain⟨v,vs,rfl,r,l⟩:=h;unfold RepV at r;rw[r,cJu l];rfl
theorem cJv{M:Am}{H:Hp}:∀{as:List Str},RepL K M H (as.map D.str) (as.map V.str)
 |[]=>RepL.nil
 |a::as=>RepL.cons (by unfold RepV;rfl) cJv
def sumD:RCD:=λds S Q=>match ds with
 |[d]=>∃ns:List Int,lsIs S d (ns.map D.int)/\Q (.int ns.sum) S
 |_=>False
theorem fZf(hg:Gl X "sum")(hm:X.mg "sum"=none)(ha:PAD K X [e] t)(hK:X.K=K:=by rfl)(hc:X.calm=true:=by rfl)(he:aC [e] X.env=(false,eval e X.env)::aC [] X.env:=by rfl)(hpl:(cO pos (aC [] X.env)).any (·.1)=false:=by rfl):PD K X (.Call (.Name "sum" p) [e] [] pos) (dCB sumD t):=aJ3 (dZv hK hc) (by
 intro F S H ds vs Q QD r l h c
 match ds,h with
 |[d],⟨ns,h1,q⟩ =>
  obtain⟨v,rfl,j⟩:=l.one;obtain⟨a,us,rfl,sq,z⟩:=lsIs.sl r j h1;rw[bJs z] at sq;exact⟨_,ns,rfl,⟨a,rfl,sq⟩,c.int r q⟩) hg hm eJo ha (by decide) (by decide) he hpl
def keyD:Key->D
 |.inl i=>.int i
 |.inr x=>.str x
def srcIs(S:Sto)(d:D)(xs:List D):Prop:=match d with
 |.tup ys=>xs=ys
 |.lst ys=>xs=ys
 |.ref a=>S a=some (.lst xs)\/∃kvs,S a=some (.dk kvs)/\xs=kvs.map λp=>keyD p.1
 |_=>False
theorem cJw{M:Am}{H:Hp}:∀{ks:List (Key×V)}{kvs:List (Key×D)},bi (λ(p:Key×V) (q:Key×D)=>p.1=q.1/\RepV K M H q.2 p.2) ks kvs->RepL K M H (kvs.map λp=>keyD p.1) (ks.map λp=>kV p.1)
 |_,_,.nil=>RepL.nil
 |_,_,.cons (a:=a) (b:=b) h l=>by
  refine RepL.cons ?_ (cJw l);show RepV K M H (keyD b.1) (kV a.1);rw[h.1];cases b.1 <;> (unfold keyD kV RepV;rfl)
theorem srcIs.src{F:Am}{S:Sto}{H:Hp}(r:Rp K F S H){d:D}{v:V}{xs:List D}(h:RepV K (mt S F) H d v)(l:srcIs S d xs):∃us,Src K H v us/\RepL K (mt S F) H xs us:=by
 cases d with
 |tup ys=>cases l;obtain⟨a,us,rfl,sq,l⟩:=tup.st h;exact⟨us,⟨a,rfl,.inr (.inl sq)⟩,l⟩
 |lst ys=>cases l;obtain⟨a,us,rfl,sq,l⟩:=lsIs.sl r h (show lsIs S (.lst xs) xs from rfl);exact⟨us,⟨a,rfl,.inl sq⟩,l⟩
 |ref a =>
  rw[rref h];rcases l with l|⟨z,l,rfl⟩
  ·obtain⟨us,q,j⟩:=r.obj a _ l;exact⟨us,⟨a,rfl,.inl (SqL.of q)⟩,j⟩
  ·obtain⟨B,q,j⟩:=r.obj a _ l;exact⟨_,⟨a,rfl,.inr (.inr ⟨B,q,rfl⟩)⟩,cJw j⟩
 |_=>exact l.elim
def tupS(t:List Str):D:=.tup (t.map D.str)
def srtD(b:Bool):RCD:=λds S Q=>match ds with
 |[d]=>(∃ss:List Str,srcIs S d (ss.map D.str)/\newL b ((srS ss).map D.str) S Q)\/(∃ns:List Int,srcIs S d (ns.map D.int)/\newL b ((srI ns).map D.int) S Q) \/
  ∃ts:List (List Str),srcIs S d (ts.map tupS)/\newL b ((srT ts).map tupS) S Q
 |_=>False
def fJ9(K:Fg):List V->Hp->VK->Prop:=λxs H Q=>fZ3 K xs H Q\/fZ4 K xs H Q\/fZ5 K xs H Q
theorem bJt{S:Sto}{F:Am}{H:Hp}:∀{ts:List (List Str)}{us:List V},RepL K (mt S F) H (ts.map tupS) us->bi (dT K dS H) us ts
 |[],us,h=>by rw[fY] at h;unfold RepL at h;subst h;exact .nil
 |a::as,xs,h=>by
  rw[aU] at h;unfold RepL at h;obtain⟨v,vs,rfl,r,l⟩:=h;exact .cons (bJo r) (bJt l)
theorem dJc{M:Am}{H:Hp}{ds:List D}{us:List V}(l:RepL K M H ds us):∀(idx:List Nat),(∀i∈idx,i<us.length)->RepL K M H (idx.map λi=>ds.getD i .non) (idx.map λi=>us.getD i .non)
 |[],_=>RepL.nil
 |i::idx,h=>by
  have hi:=h i ak;refine RepL.cons ?_ (dJc l idx λj q=>h j (ao _ q));obtain⟨d,z,rd⟩:=l.get' (af hi);show RepV K M H (ds.getD i .non) (us.getD i .non);rw[ai,ai,z,af hi];exact rd
theorem fZg{b:Bool}:bJm K (fJ9 K) (srtD b):=by
 intro F S H ds vs Q QD r l h c
 match ds,h with
 |[d],h =>
  obtain⟨v,rfl,G⟩:=l.one;rcases h with⟨ss,h1,q⟩|⟨ss,h1,q⟩|⟨ts,h1,q⟩
  ·obtain⟨us,z,j⟩:=h1.src r G;rw[cJu j] at z;exact .inl ⟨v,ss,rfl,z,λp out B L J=>by
    rw[fZd L J];exact c.new r B cJv q⟩
  ·obtain⟨us,z,j⟩:=h1.src r G;rw[bJs j] at z;exact .inr (.inl ⟨v,ss,rfl,z,λp out B L J=>by
    rw[fZe L J];exact c.new r B cJt q⟩)
  ·obtain⟨us,z,j⟩:=h1.src r G;refine .inr (.inr ⟨v,us,ts,rfl,z,bJt j,λp idx B Z Y U=>c.new r B ?_ q⟩);have hl:=j.length;rw[ah] at hl;have D:∀i∈idx,i<us.length:=λi hi=>ax.mp (Z.mem_iff.mp hi)
   have:=dJc j idx D
   rw[<- eZo U Y,bI];have e:(idx.map λi=>(ts.map tupS).getD i .non)=idx.map (tupS∘λi=>ts.getD i []):=eG λi hi=>by
    have O:i<ts.length:=by have:=D i hi;omega
    show(ts.map tupS).getD i .non=tupS (ts.getD i []);rw[ai,ai,aL,af O]
    rfl
   rw[<- e];exact this
theorem aX7{b:Bool}(hr:Room k X.A)(hg:Gl X "sorted")(hm:X.mg "sorted"=none)(ha:PAD K X [e] t)(hK:X.K=K:=by rfl)(hc:X.calm=true:=by rfl)(he:aC [e] X.env=(false,eval e X.env)::aC [] X.env:=by rfl)(hpl:(cO pos (aC [] X.env)).any (·.1)=false:=by rfl):PD K X (.Call (.Name "sorted" p) [e] [] pos) (dCB (srtD b) t):=aJ3 ((cJn hK hc).or ((cJo hK hc).or (cJp (lt10 hr) hK hc))) fZg hg hm aXn ha (by decide) (by decide) he hpl
end
end L2
set_option maxHeartbeats 4000000
namespace L2
open PySem PySem.Spec PyProof.Rows
theorem aX8{g:GD}{tt:TD}{tb:BD}{G:Sto->Prop}{Γ0:Gm}{xs acc:List D}{S:Sto}{Q:List D->Sto->Prop}(I:Nat->List D->Sto->Prop)(h0:I 0 acc S)
  (hs:∀i x acc S (N:List D->Sto->Prop),xs[i]?=some x->I i acc S->(∀acc' S',I (i+1) acc' S'->N acc' S')->G S/\g x Γ0 S fun Γ2 S2=>tt Γ2 S2 λb S3=>if b=true then tb Γ2 S3 acc N else N acc S3)
  (hd:∀acc S,I xs.length acc S->G S/\Q acc S):aZd g tt tb G Γ0 xs acc S Q:=by
 have gen:∀n i acc S,i+n=xs.length->I i acc S->aZd g tt tb G Γ0 (xs.drop i) acc S Q:=by
  intro n
  induction n with
  |zero =>
   intro i acc S hi h;have e:i=xs.length:=by lia
   subst e;rw[f8];exact hd acc S h
  |succ n q =>
   intro i acc S hi h;have j:i<xs.length:=by lia
   rw[aX3 j];exact hs i xs[i] acc S (λacc' z=>aZd g tt tb G Γ0 (xs.drop (i+1)) acc' z Q) (af j) h λacc' S' h'=>q (i+1) acc' S' (by lia) h'
 simpa using gen xs.length 0 acc S (by lia) h0
theorem aZ8{g:GD}{tb:SD}{G:Sto->Prop}{E:EndsD}{xs:List D}{Γ:Gm}{S:Sto}(I:Nat->Gm->Sto->Prop)(h0:I 0 Γ S)
  (hs:∀i x Γ S (N:Gm->Sto->Prop),xs[i]?=some x->I i Γ S->(∀Γ' S',I (i+1) Γ' S'->N Γ' S')->G S/\g x Γ S fun Γ2 S2=>tb {E with nx:=N,ct:=N,bk:=E.nx} Γ2 S2)
  (hd:∀Γ S,I xs.length Γ S->G S/\E.nx Γ S):forD g tb G E xs Γ S:=by
 have gen:∀n i Γ S,i+n=xs.length->I i Γ S->forD g tb G E (xs.drop i) Γ S:=by
  intro n
  induction n with
  |zero =>
   intro i Γ S hi h;have e:i=xs.length:=by lia
   subst e;rw[f8];exact hd Γ S h
  |succ n q =>
   intro i Γ S hi h;have j:i<xs.length:=by lia
   rw[aX3 j];exact hs i xs[i] Γ S (forD g tb G E (xs.drop (i+1))) (af j) h fun Γ' S' h'=>q (i+1) Γ' S' (by lia) h'
 simpa using gen xs.length 0 Γ S (by lia) h0
theorem aX9{α:Type}{i:Nat}{te:ED}{Γ0:Gm}{S:Sto}{Q:List D->Sto->Prop}{enc:α->D}{f:α->D}{xs:List α}{acc:List D}(h:∀x∈xs,∀Q:DK,Q (f x) S->te (Γ0.set i (some (enc x))) S Q)(hn:acc.length+xs.length<=sizeLine)
  (q:Q (acc++xs.map f) S):aZd (aQq i) dYes (bQb te) (λ_=>True) Γ0 (xs.map enc) acc S Q:=by
 induction xs generalizing acc with
 |nil=>exact⟨trivial,by simpa using q⟩
 |cons x xs z =>
  refine⟨trivial,?_⟩;show bQb te (Γ0.set i (some (enc x))) S acc (λj G=>aZd (aQq i) dYes (bQb te) (λ_=>True) Γ0 (xs.map enc) j G Q);refine h x ak _ ⟨by simp at hn;lia,z (λy B=>h y (ao _ B)) (by simp at hn ⊢;lia) (by simpa using q)⟩
theorem aQr{α:Type}{i:Nat}{tt:TD}{te:ED}{Γ0:Gm}{S:Sto}{Q:List D->Sto->Prop}{enc:α->D}{p:α->Bool}{f:α->D}{xs:List α}{acc:List D}(ht:∀x∈xs,∀Q:Bool->Sto->Prop,Q (p x) S->tt (Γ0.set i (some (enc x))) S Q)(h:∀x∈xs,p x=true->∀Q:DK,Q (f x) S->te (Γ0.set i (some (enc x))) S Q)(hn:acc.length+xs.length<=sizeLine)
  (q:Q (acc++(xs.filter p).map f) S):aZd (aQq i) tt (bQb te) (λ_=>True) Γ0 (xs.map enc) acc S Q:=by
 induction xs generalizing acc with
 |nil=>exact⟨trivial,by simpa using q⟩
 |cons x xs z =>
  refine⟨trivial,?_⟩;show tt (Γ0.set i (some (enc x))) S _;refine ht x ak _ ?_;cases hp:p x with
  |true =>
   rw[if_pos rfl];refine h x ak hp _ ⟨by simp at hn;lia,z (λy j=>ht y (ao _ j)) (λy j=>h y (ao _ j)) (by simp at hn ⊢;lia) ?_⟩
   rw[eR,hp] at q;simpa using q
  |false =>
   rw[if_neg (by simp)]
   refine z (λy j=>ht y (ao _ j)) (λy j=>h y (ao _ j)) (by simp at hn ⊢;lia) ?_
   rw[eR,hp] at q;simpa using q
def sg(c:Nat):Str:=⟨#[c]⟩
theorem fZh(c:Nat):(sg c).length=1:=rfl
theorem dJd(a b:List Nat):((⟨a.toArray⟩:Str)++(⟨b.toArray⟩:Str))=⟨(a++b).toArray⟩:=by
 show Str.mk (a.toArray++b.toArray)=_;simp
theorem dZw:(bo "":Str)=⟨#[]⟩:=by decide
theorem eZp:∀cs:List Nat,Txt.join (bo "") (cs.map sg)=⟨cs.toArray⟩:=λcs=>by
 show cv.Str.glued _ _=_;rw[StrLaws.glued_eq_join]
 induction cs with
 |nil=>rfl
 |cons c cs j =>
  cases cs with
  |nil=>rfl
  |cons d cs =>
   rw[aU] at j;show sg c++bo ""++Str.join (bo "") (sg d::cs.map sg)=_;rw[j,dZw];show((⟨[c].toArray⟩:Str)++(⟨([]:List Nat).toArray⟩:Str))++(⟨(d::cs).toArray⟩:Str)=_;rw[dJd,dJd]
   rfl
theorem bZn{α:Type}(f:α->D)(xs:List α)(lo hi:Option Int):cutD (xs.map f) lo hi=((xs.drop (HT.sIx xs.length 0 lo)).take (HT.sIx xs.length xs.length hi-HT.sIx xs.length 0 lo)).map f:=by
 unfold cutD;rw[ah,jw,List.map_drop]
theorem bXs{n i:Nat}{x:D}(h:(rngD 0 n)[i]?=some x):i<n/\x=.int (i:Nat):=by
 obtain⟨h1,h2⟩:=bZh n 0 i x h;exact⟨h1,by rw[h2,Int.zero_add]⟩
def Off(a:Addr)(S S':Sto):Prop:=∀b,b≠a->S' b=S b
theorem Off.trans{a:Addr}{S S1 S2:Sto}(h:Off a S S1)(h':Off a S1 S2):Off a S S2:=λb j=>(h' b j).trans (h b j)
def Itz(K:Fg)(a b:Addr):It:=⟨λi H=>∃ xs ys x y,SqL K H a xs/\SqL K H b ys/\xs[i]?=some x/\ys[i]?=some y,λi H x H'=>∃ p y z,H p=none/\x=.ref p/\H'=upd H p (.tup [y,z])/\(∀ xs,SqL K H a xs->xs[i]?=some y)/\∀ ys,SqL K H b ys->ys[i]?=some z,
 λi H=>∃xs ys,SqL K H a xs/\SqL K H b ys/\(xs.length<=i\/ys.length<=i)⟩
def zst(z TI TO i1 i2 a b:Addr)(i:Nat)(h:bu):Prop:=IsZip h z TI TO .none/\IsPair h TI (.ref i1) (.ref i2)/\(∃u v,IsPair h TO u v)/\h.IsListIter i1 a i/\h.IsListIter i2 b i
theorem cJx{z TI TO i1 i2 a b c:Addr}{i:Nat}{h:bu}(st:zst z TI TO i1 i2 a b i h)(hc:c∈[z,TI,TO,i1,i2]):∃o,h.get? c=some o/\∀v,o.data≠.cell v:=by
 obtain⟨J,G,⟨u,v,D⟩,⟨Y,q,O,B⟩,⟨U,j,L,hd2⟩⟩:=st;simp only[aD,eP,or_false] at hc;rcases hc with rfl|rfl|rfl|rfl|rfl
 ·exact⟨_,J,λv z=>by cases z⟩
 ·exact⟨_,G,λv z=>by cases z⟩
 ·exact⟨_,D,λv z=>by cases z⟩
 ·exact⟨_,q,λv z=>by rw[B] at z;cases z⟩
 ·exact⟨_,j,λv z=>by rw[hd2] at z;cases z⟩
theorem dZx{P:au}{w:aN}{K:Fg}{elts:List Expr}{x1:Nat}{pos:Pos}(z TI TO i1 i2 a b:Addr)(D:ZipApart z TI TO i1 i2 a b):Turn P w K (.Tuple elts x1 pos) (Itz K a b) [z,TI,TO,i1,i2] z (zst z TI TO i1 i2 a b) where
 mem:=by simp
 obj:=λi h st c Y=>cJx st Y
 keep:=λi h h' st k=>by
  obtain⟨hz,L,⟨u,v,U⟩,⟨o1,ho1,r1⟩,⟨o2,ho2,r2⟩⟩:=st;exact⟨k z (by simp) _ hz,k TI (by simp) _ L,⟨u,v,k TO (by simp) _ U⟩,⟨o1,k i1 (by simp) _ ho1,r1⟩,⟨o2,k i2 (by simp) _ ho2,r2⟩⟩
 item:=by
  intro X hP hw hK Y i pins s σ H E I hf st hg;subst hP hw hK;have sto:=λc Y=>cJx (c:=c) st Y;obtain⟨xs,ys,x,y,hq1,Z,hx,hy⟩:=hg;obtain⟨its,rv,p1,hz1⟩:=I.list hq1;obtain⟨jts,rw',p2,hz2⟩:=I.list Z;obtain⟨u,hu,ru⟩:=rv.get hx;obtain⟨v,hv,rv'⟩:=rw'.get hy;obtain⟨hz,L,⟨t1,t2,U⟩,st1,st2⟩:=st;refine wpAny_pyNext_zip_item D hz L U st1 st2 p1.isList p2.isList (by simpa using hu) (by simpa using hv) λh' a1 a2 a3 a4 a5 a6 hk=>⟨_,rfl,?_⟩
  refine wpAny_letOwnedTupleGo_zip a1 λh2 hz2' J=>?_;have O:∀c o,c∉[z,TI,TO,i1,i2]->s.heap.get? c=some o->h2.get? c=some o:=λc o n g=>(J.2 c (by simp at n;exact n.1)).trans (hk c o (by simp at n;exact n.1) (by simp at n;exact n.2.2.1) (by simp at n;exact n.2.2.2.1) (by simp at n;exact n.2.2.2.2) g)
  have hzl:z<s.heap.objs.size:=aA hz;have j:H s.heap.objs.size=none:=I.hok.fresh (Nat.le_refl _);have nT:∀c o,s.heap.get? c=some o->c≠s.heap.objs.size:=λc o g=>Nat.ne_of_lt (aA g);have nH:∀c u,H c=some u->c∉[z,TI,TO,i1,i2]:=λc u g Y=>by have:=(hf c Y).1;rw[g] at this;cases this
  have tupT:h2.get? s.heap.objs.size=some {cls:=.type "tuple",data:=.seq #[u,v]}:=(J.2 _ (Nat.ne_of_gt hzl)).trans a5;have hok:HOk X.prog X.w (upd H s.heap.objs.size (.tup [x,y])) h2:=λc ob g=>by
   by_cases B:c=s.heap.objs.size
   ·subst B;rw[aQ8] at g;cases g;refine⟨by rw[bK];show 2<=_;decide,[u,v],.cons ru (.cons rv' .nil),⟨_,tupT,rfl,0,rfl⟩,λo e=>by rw[tupT] at e;cases e;rfl⟩
   ·rw[upd_ne B] at g;refine(I.hok c ob g).stay (λe w' G q=>?_) (λe q=>?_) λe ys q=>?_
    ·rcases G with rfl|G
     ·exact O _ _ (nH _ _ g) q
     ·exact O _ _ (nH _ _ G) q
    ·rw[upd_ne (aQ7 q j)];exact q
    ·rw[upd_ne (aQ7 q j)];exact q
  have un:Un (frs X.stack) [z,TI,TO,i1,i2] H (upd H s.heap.objs.size (.tup [x,y])) s.heap h2 :=
   ⟨λc o g _ _ B=>O c o B g,λc o g _ _ B=>⟨o.slots,O c o B g⟩,λc o g n _=>by rw[upd_ne (nT c o g)];exact n,λc o g B=>⟨o,O c o B g⟩,
    λc ys g=>by rw[upd_ne (aQ7 g j)];exact g,λc o v g=>by rw[upd_ne (aQ7 g j)];exact g,λc ps g=>⟨#[],by rw[upd_ne (aQ7 g j),g];simp⟩⟩
  have I2:Inv X pins σ (upd H s.heap.objs.size (.tup [x,y])) {s with heap:=h2}:=I.call' (s':={s with heap:=h2}) rfl un hok I.bare λc B=>by
   have fe:=hf c B;exact⟨fe.2.2.2.1,fe.2.1,fe.2.2.2.2.1,fe.2.2.2.2.2⟩
  refine⟨.ref s.heap.objs.size,_,I2,rfl,⟨_,x,y,j,rfl,rfl,λys hy=>by rw[I.list_inj hy hq1];exact hx,λys hy'=>by rw[I.list_inj hy' Z];exact hy⟩,⟨hz2',?_,⟨u,v,?_⟩,?_,?_⟩,λc B=>?_⟩
  ·exact(J.2 TI D.TIz).trans (hk TI _ D.TIz D.TITO D.TIi1 D.TIi2 L)
  ·exact(J.2 TO D.TOz).trans a2
  ·obtain⟨o,g,r⟩:=a3;exact⟨o,(J.2 i1 D.i1z).trans g,r⟩
  ·obtain⟨o,g,r⟩:=a4;exact⟨o,(J.2 i2 D.i2z).trans g,r⟩
  ·obtain⟨o,g,_⟩:=sto c B;rw[upd_ne (Nat.ne_of_lt (aA g))];exact(hf c B).1
 done:=by
  intro X hP hw hK Y i pins s σ H E I hf st hg;subst hP hw hK;obtain⟨xs,ys,hq1,Z,hx⟩:=hg;obtain⟨its,rv,p1,hz1⟩:=I.list hq1;obtain⟨jts,rw',p2,hz2⟩:=I.list Z;obtain⟨hz,L,⟨t1,t2,U⟩,st1,st2⟩:=st;have hh:X.A.in1.handled=none:=by have:=I.ok.hd Y;simp[this]
  have l1:=rv.length;have l2:=rw'.length;refine wpAny_pyNext_zip_end (hh) D hz L U st1 st2 p1.isList p2.isList (by rcases hx with h|h;exact .inl (by simp;lia);exact .inr (by simp;lia)) λh' hk=>⟨rfl,?_⟩
  have O:∀c o,c∉[z,TI,TO,i1,i2]->s.heap.get? c=some o->h'.get? c=some o:=λc o n g=>hk c o (by simp at n;exact n.1) (by simp at n;exact n.2.2.1) (by simp at n;exact n.2.2.2.1) (by simp at n;exact n.2.2.2.2) g
  have nH:∀c u,H c=some u->c∉[z,TI,TO,i1,i2]:=λc u g Y=>by have:=(hf c Y).1;rw[g] at this;cases this
  have hok:HOk X.prog X.w H h':=λc ob g=>(I.hok c ob g).stay (λe w' G q=>by
    rcases G with rfl|G
    ·exact O _ _ (nH _ _ g) q
    ·exact O _ _ (nH _ _ G) q) (λe q=>q) λe ys q=>q
  have un:Un (frs X.stack) [z,TI,TO,i1,i2] H H s.heap h' :=
   ⟨λc o g _ _ B=>O c o B g,λc o g _ _ B=>⟨o.slots,O c o B g⟩,λc o g n _=>n,λc o g B=>⟨o,O c o B g⟩,λc ys g=>g,λc o v g=>g,λc ps g=>⟨#[],by rw[g];simp⟩⟩
  exact I.call' (s':={s with heap:=h'}) rfl un hok I.bare λc B=>by
   have fe:=hf c B;exact⟨fe.2.2.2.1,fe.2.1,fe.2.2.2.2.1,fe.2.2.2.2.2⟩
 self:=λA i s Q E st h=>wpAny_pyIter_zip st.1 h
section
variable{X:Cx}
def iZip(K:Fg)(ta:TA):TI:=fun σ H R=>ta σ H λvs H1=>∃a b,vs=[.ref a,.ref b]/\(∃xs,SqL K H1 a xs)/\(∃ys,SqL K H1 b ys)/\R (Itz K a b) H1
theorem fZi{e f:Expr}{ta:TA}{p pos:Pos}{elts:List Expr}{x1:Nat}{tpos:Pos}{K:Fg}(hg:Gl X "zip")(hm:X.mg "zip"=none)(ha:PA X [e,f] ta)(hs:aC [e,f] X.env=[(false,eval e X.env),(false,eval f X.env)]:=by rfl)(hs2:aC [f] X.env=[(false,eval f X.env)]:=by rfl)(hK:X.K=K:=by rfl) :
  PI X (.Tuple elts x1 tpos) (.Call (.Name "zip" p) [e,f] [] pos) (iZip K ta):=by
 subst hK;intro pins s σ H R I h;refine Call_ (ld_blt I hg hm PyProof.Rows.boot_zip (dD (thn (ha pos pins s σ H _ I h) λus s1 ⟨vs,H1,z,r1,q1⟩=>?_) (by rw[hs,hs2]) (by rw[hs2];rfl)))
 obtain⟨a,b,rfl,⟨xs,G⟩,⟨ys,D⟩,q⟩:=q1;cases r1 with
 |cons r rr =>
  cases rr with
  |cons r' rr =>
   cases rr;cases r;cases r';obtain⟨its,rv,pl,B⟩:=z.list G;obtain⟨jts,rw',j,hz'⟩:=z.list D;have L:a<s1.heap.objs.size:=by obtain⟨o,e,_⟩:=id pl.isList;exact aA e
   have J:b<s1.heap.objs.size:=by obtain⟨o,e,_⟩:=id j.isList;exact aA e
   refine call_zip_2 pl.isList j.isList λh' B U O h1 h2 _ hk=>wpAny_pyIter_zip B ?_;refine⟨s1.heap.objs.size+4,[s1.heap.objs.size+4,s1.heap.objs.size+2,s1.heap.objs.size+3,s1.heap.objs.size,s1.heap.objs.size+1],_,_,H1,rfl,z.kept (t':=s1.toks) hk,dZx _ (s1.heap.objs.size+2) (s1.heap.objs.size+3) s1.heap.objs.size (s1.heap.objs.size+1) a b ?_,⟨B,U,⟨_,_,O⟩,h1,h2⟩,λc Z=>?_,q⟩
   ·exact zipApart_new L J
   ·have Y:s1.heap.objs.size<=c:=by
     simp only[aD,eP,or_false] at Z;rcases Z with rfl|rfl|rfl|rfl|rfl
     ·exact Nat.le_add_right _ _
     ·exact Nat.le_add_right _ _
     ·exact Nat.le_add_right _ _
     ·exact Nat.le_refl _
     ·exact Nat.le_add_right _ _
    exact z.fpOk Y (z.hok.fresh Y)
end
section
variable{X:Cx}{K:Fg}{pos:Pos}
def zipD:List D->List D->List D
 |x::xs,y::ys=>.tup [x,y]::zipD xs ys
 |_,_=>[]
theorem bZo:∀(xs ys:List D) (i:Nat) (d:D),(zipD xs ys)[i]?=some d->∃x y,xs[i]?=some x/\ys[i]?=some y/\d=.tup [x,y]
 |[],_,i,d,h=>by simp[zipD] at h
 |_::_,[],i,d,h=>by simp[zipD] at h
 |x::xs,y::ys,0,d,h=>by simp[zipD] at h;exact⟨x,y,rfl,rfl,h.symm⟩
 |x::xs,y::ys,i+1,d,h=>by
  have h':(zipD xs ys)[i]?=some d:=by simpa [zipD] using h
  obtain⟨u,v,h1,h2,e⟩:=bZo xs ys i d h';exact⟨u,v,by simpa using h1,by simpa using h2,e⟩
theorem bZp:∀(xs ys:List D),(zipD xs ys).length=min xs.length ys.length
 |[],_=>by simp[zipD]
 |_::_,[]=>by simp[zipD]
 |x::xs,y::ys=>by simp[zipD,bZp xs ys]
theorem cQu{F:Am}{S:Sto}{H:Hp}{p:Addr}{x y:V}{d e:D}(r:Rp K F S H)(hp:H p=none)(rx:RepV K (mt S F) H d x)(ry:RepV K (mt S F) H e y):Ext S H S (upd H p (.tup [x,y]))/\Rp K F S (upd H p (.tup [x,y]))/\RepV K (mt S F) (upd H p (.tup [x,y])) (.tup [d,e]) (.ref p):=by
 have z:Ext S H S (upd H p (.tup [x,y])):=Ext.same (aQt hp);refine⟨z,r.same (aQt hp),?_⟩;unfold RepV;exact⟨p,_,rfl,.inl ⟨r.nmt hp,.inl aQ8⟩,RepL.cons (rx.ext z) (RepL.cons (ry.ext z) RepL.nil)⟩
end
end L2
set_option maxHeartbeats 1000000
namespace L2
open PySem PySem.Spec PyProof.Rows
section
variable{X:Cx}{K:Fg}{pos:Pos}{k:Nat}{e:Expr}{te:ED}
def repS(z:Str)(n:Int):Str:=if n=1 then z else ⟨(fP n.toNat z.cps).foldl (·++·) #[]⟩
theorem cQv(a:Array Nat):∀(n:Nat) (acc:Array Nat),((fP n a).foldl (·++·) acc).size=acc.size+n*a.size
 |0,acc=>by simp
 |n+1,acc=>by
  rw[List.replicate_succ,j8,cQv a n,de,Nat.succ_mul];omega
theorem cQw{z:Str}{n:Int}(hz:z.length=1)(n1:1<=n):(repS z n).length=n.toNat:=by
 unfold repS
 split
 ·rename_i h;rw[hz,h];rfl
 ·show Array.size _=_;have j:z.cps.size=1:=hz;rw[cQv,j];simp
def fZj:R2:=λx y H Q=>∃z n,x=.str z/\y=.int n/\z.length=1/\1<=n/\n<=100/\Q (.str (repS z n)) H
theorem eZq:OpR X (eD .Mult) fZj:=by
 intro pins s σ H x y v u Q I D B h;obtain⟨z,n,rfl,rfl,j,G,L,q⟩:=h;obtain⟨t,rfl⟩:=D;obtain⟨J,rfl⟩:=B;refine P.mul_str ?_ (λ_ _=>?_) (λ_ _=>?_) ?_
 ·rw[decide_eq_false (by omega),decide_eq_false (by omega)];rfl
 ·rw[j]
  have:=(Int.le_ediv_iff_mul_le (a:=1) (b:=2^63-1) (c:=n) (by omega)).mpr (by omega)
  omega
 ·rw[j];exact decide_eq_false (by rw[bK];omega)
 ·rw[if_neg (by omega)]
  unfold repS at q
  by_cases h1:n=1
  ·rw[if_pos (by rw[h1];rfl)]
   rw[if_pos h1] at q;exact⟨.str z,H,I,⟨_,rfl⟩,q⟩
  ·rw[if_neg (by rw[j];simp[h1])]
   have hl:=cQw j G;unfold repS at hl;rw[if_neg h1] at q hl;exact⟨by rw[hl,bK];omega,.str _,H,I.tok _,⟨_,rfl⟩,q⟩
def repD:R2D:=λd e S Q=>match d,e with
 |.str z,.int n=>z.length=1/\1<=n/\n<=100/\Q (.str (repS z n)) S
 |_,_=>False
theorem eZr:OpD K fZj repD:=by
 intro F S H d e x y Q QD r hd he h c
 match d,e,h with
 |.str z,.int n,⟨D,B,j,q⟩ =>
  rw[rstr hd,rint he];exact⟨z,n,rfl,rfl,D,B,j,c _ _ _ S (Ext.refl _ _) r (by unfold RepV;rfl) q⟩
theorem fJa{a b:Expr}{ta tb:ED}(ha:PD K X a ta)(hb:PD K X b tb):PD K X (.BinOp a .Mult b pos) (dOp repD ta tb):=e_op eZq eZr ha hb
end
section
variable{X:Cx}{K:Fg}{pos:Pos}{k:Nat}
def exrD:D->List D->Sto->DK->Prop:=λo ds S Q=>match o,ds with
 |.ref a,[.ref b]=>∃xs ys,S a=some (.lst xs)/\S b=some (.lst ys)/\xs.length+ys.length<=sizeLine/\Q .non (supd S a (.lst (xs++ys)))
 |_,_=>False
theorem fZk:MtD K "list" cXg exrD ckL:=⟨λF S H d x r h c=>ty_L r h c,λF S H d ds x vs Q QD r h l q c=>by
 match d,ds,q with
 |.ref a,[.ref b],⟨xs,ys,B,j,G,q⟩ =>
  obtain⟨v,rfl,D⟩:=l.one;obtain⟨us,J,z⟩:=r.obj a _ B;obtain⟨ws,hw,lw⟩:=r.obj b _ j;rw[rref h,rref D];exact⟨a,b,us,ws,rfl,rfl,J,hw,by rw[z.length,lw.length];exact G,c.write r (us:=us) B (z.app lw) (by unfold RepV;rfl) q⟩⟩
theorem cQx{o e:Expr}{to:ED}{t:AD}{apos cpos:Pos}(ho:PD K X o to)(ha:PAD K X [e] t)(hK:X.K=K:=by rfl)
  (hbase:eM o "extend" X.env (eval o X.env)=eval o X.env:=by rfl)
  (hfew:((cO cpos (aC [e] X.env)).all (λx=>!x.1) && (io cpos (fy [] X.env)).all (λx=>x.1.isSome)
   && decide (([e]:List Expr).length+([]:List fZ).length+(if ([]:List fZ).isEmpty then 0 else 1)<30))=true:=by rfl)
  (hline:(apos.endLine==cpos.line)=true:=by rfl) (hs:aC [e] X.env=(false,eval e X.env)::aC [] X.env:=by rfl) (hplain:(cO cpos (aC [] X.env)).any (·.1)=false:=by rfl) :
  PD K X (.Call (.Attribute o "extend" apos) [e] [] cpos) (dMt exrD ckL to t):=e_bm fZk gE PySem.F.slot_list_extend PySem.F.type_list_extend cXh ho ha hK hbase hfew hline hs hplain
def cJy(r r':R2D)(ta tb tc:ED):ED:=fun Γ S Q=>ta Γ S λx S1=>tb Γ S1 λy S2=>r x y S2 λz S3=>∃k,z=.bl k/\(if k=true then tc Γ S3 λw S4=>r' y w S4 Q else Q (.bl false) S3)
theorem dZy{r r':R2}{rd rd':R2D}{ta tb tc:ED}(h:OpD K r rd)(h':OpD K r' rd'):∀σ H Q,upE K (cJy rd rd' ta tb tc) σ H Q->dXl r r' (upE K ta) (upE K tb) (upE K tc) σ H Q:=fun σ H Q Z=>Z.el λF S Γ QD r g q c =>
 ⟨F,S,Γ,_,r,g,q,λx d H1 S1 D r1 v1 q1=>⟨F,S1,Γ,_,r1,g.ext D,q1,λy e H2 S2 B r2 v2 q2=>h F S2 H2 d e x y _ _ r2 (v1.ext B) v2 q2 λv z H3 U j L G Y=>by
  obtain⟨kk,e3,O⟩:=Y;subst e3;refine⟨kk,rbl G,?_⟩;cases kk with
  |true=>exact⟨F,U,Γ,_,L,g.ext (D.trans (B.trans j)),O,λw f H4 S4 J r4 v4 q4=>h' F S4 H4 e f y w Q QD r4 (v2.ext (j.trans J)) v4 q4 λv z H5 S5 x5=>c v z H5 S5 (D.trans (B.trans (j.trans (J.trans x5))))⟩
  |false=>exact c _ _ _ U (D.trans (B.trans j)) L (rbl G▸G) O⟩⟩
theorem dZz{op op':CmpOp}{r r':R2}{rd rd':R2D}{a b c:Expr}{ta tb tc:ED}(ho:OpR X (cy op) r)(ho':OpR X (cy op') r')(h:OpD K r rd)(h':OpD K r' rd')(ha:PD K X a ta)(hb:PD K X b tb)(hc:PD K X c tc)
  (hm:lastMarks [op,op'] [b,c]=false:=by with_unfolding_all rfl):PTD K X (.Compare a [op,op'] [b,c] pos) (aXq (cJy rd rd' ta tb tc)):=.of (dQr ho ho' ha.o hb.o hc.o hm) fun σ H Q q=>dZy h h' σ H _ (by
 obtain⟨F,S,Γ,QD,r,g,q,c⟩:=q;refine⟨F,S,Γ,_,r,g,q,λv d H1 D j z v1 ⟨b,e,B⟩=>?_⟩;subst e;exact⟨b,rbl v1,c b H1 D j z B⟩)
theorem eZs{a b c:Expr}{ta tb tc:ED}(ha:PD K X a ta)(hb:PD K X b tb)(hc:PD K X c tc)(hm:lastMarks [.Lt,.LtE] [b,c]=false:=by with_unfolding_all rfl) :
  PTD K X (.Compare a [.Lt,.LtE] [b,c] pos) (aXq (cJy (iiD0 λi j=>.bl (decide (i<j))) (iiD0 λi j=>.bl (decide (i<=j))) ta tb tc)):=dZz op_lt fXi dZk dZk ha hb hc hm
end
end L2
set_option maxHeartbeats 4000000
namespace L2
open PySem PySem.Spec PyProof.Rows
section
variable{prog:au}{w:aN}{A:bj}{E:ae->aj->Prop}
theorem dX0{it l:Addr}{vs:List ae}(hne:l≠it)(n:Nat):∀(i:Nat) (s:aj) (Q:List ae->aj->Prop),s.heap.IsListIter it l i->s.heap.IsList l vs.toArray->i+n<=vs.length ->
  (∀h',h'.IsListIter it l (i+n)->c9 it s.heap h'->Q ((vs.drop i).take n) {s with heap:=h'})->aE (aF prog w) A (draw (.ref it) n) Q E s:=by
 induction n with
 |zero =>
  intro i s Q hi _ _ q;have j:=q s.heap hi (je ..);rw[iY] at j;exact ad j
 |succ n D =>
  intro i s Q hi hl L q;have lt:i<vs.length:=by lia
  show aE _ _ (eV (.ref it)>>=_) Q E s;refine aa (gG (x:=vs[i]) hi hl (by simp[lt]) λa J sa=>aa (bq (D (i+1) _ _ J (hl.extBut sa.extBut hne) (by lia) λb G z=>ad ?_)))
  have B:=q b (by rw[Nat.add_succ,<- Nat.succ_add];exact G) (sa.trans z)
  rwa [cQ lt,List.take_succ_cons] at B
theorem cJz{s:aj}{l:Addr}{vs:List ae}{Q:List ae->aj->Prop}(hh:A.handled=none)(hl:s.heap.IsList l vs.toArray)(q:∀h',bu.ExtBut s.heap.objs.size s.heap h'->Q vs {s with heap:=h'}):aE (aF prog w) A (unpackItems (.ref l) vs.length none) Q E s:=by
 have old:l≠s.heap.objs.size:=by obtain⟨o,g,_⟩:=id hl;exact Nat.ne_of_lt (aA g)
 unfold unpackItems notIterableAtAll;refine aa (aa (ix hl.typeIs F.slot_list_iter.lookup (ad ?_)));rw[if_neg bz];refine aa (bq (fL hl (aa (bq (dX0 old vs.length 0 _ _ ⟨_,ar _ rfl,rfl,rfl⟩ (hl.push _) (by lia) λa z sa=>?_)))))
 have all:(vs.drop 0).take vs.length=vs:=by rw[gO,cz]
 rw[all,if_neg (by simp)]
 refine aa (bq (gZ hh z ((hl.push _).extBut sa.extBut old) (by simp) λb B=>ad ?_))
 exact q b λc o j g=>B c o j (sa.extBut c o j (ag _ g))
end
section
variable{X:Cx}{K:Fg}{pos:Pos}
def gLst(K:Fg)(n:Nat)(t:TGs):TG:=λv σ H Q=>∃a xs,v=.ref a/\SqL K H a xs/\xs.length=n/\t xs σ H Q
theorem fZl{es:List Expr}{kk:Nat}{t:TGs}{n:Nat}(hc:X.calm=true)(h:PGs X es t)(hn:(dj es X.env).length=n:=by rfl)(hst:(dj es X.env).findIdx? (·.1)=none:=by rfl):PG X (.Tuple es kk pos) (gLst X.K n t):=by
 intro pins s σ H v u Q I r ⟨a,xs,D,B,hl,hw⟩;subst D;cases r;obtain⟨its,j,z,G⟩:=I.list B;have hlen:(dj es X.env).length=its.length:=by rw[hn,<- hl,j.length]
 rw[assign_Tuple];refine aa (eK ?_);unfold unpack;rw[hst,hlen];refine aa (bq (cJz (I.ok.hd hc) z.isList λh' q=>?_));exact h pins _ σ H xs _ Q (I.kept (t':=s.toks) λb o e=>q b o (Nat.ne_of_lt (aA e)) e) j hw
def fJb(n:Nat)(t:GsD):GD:=λd Γ S Q=>match d with
 |.lst ds=>ds.length=n/\t ds Γ S Q
 |_=>False
theorem fZm{es:List Expr}{kk:Nat}{t:GsD}{n:Nat}(hc:X.calm=true)(h:PGsD K X es t)(hK:X.K=K:=by rfl)
  (hn:(dj es X.env).length=n:=by rfl) (hst:(dj es X.env).findIdx? (·.1)=none:=by rfl):PGD K X (.Tuple es kk pos) (fJb n t) :=
 .of (fZl hc h.o hn hst) λv σ H Q z=>z.el λF S Γ d QD r g j q c=>by
  cases d with
  |lst ds =>
   unfold RepV at j;obtain⟨p,us,rfl,sq,l⟩:=j;exact⟨p,us,rfl,by rw[hK];exact sq.sq,by rw[l.length];exact q.1,F,S,Γ,ds,_,r,g,l,q.2,c⟩
  |_=>exact q.elim
end
end L2
set_option maxHeartbeats 1000000
namespace L2
open PySem PySem.Spec PyProof.Rows
end L2
set_option maxHeartbeats 4000000
namespace L2
open PySem PySem.Spec PyProof.Rows
section
variable{X:Cx}
def cQy(w:aN)(K:Fg):List V->Hp->VK->Prop:=λxs H Q=>∃x ms,xs=[x]/\dSt w K H x ms/\ms.Nodup/\ms.length<300/\∀l ys out,H l=none->out.Perm ms->out.Pairwise (λa b=>HT.lexS a b=true)->bi (dT K dS H) ys out->Q (.ref l) (upd H l (.lst ys))
theorem aXf{K:Fg}{w:aN}(hu:X.A.units+8<cB)(hK:X.K=K:=by rfl)(hw:X.w=w:=by rfl)(hc:X.calm=true:=by rfl):CallR X (.builtin "sorted") (cQy w K):=by
 subst hw;intro pins s σ H xs us Q I r h;obtain⟨x,ms,rfl,⟨p,es,ep,t,ps,rfl,hH,hf,G,L,pp,rfl⟩,nd,U,q⟩:=h;obtain⟨u,rfl,rx⟩:=aXx r;cases rx;obtain⟨hg,_⟩:=I.hok p _ hH;have hl:es.size=ps.length:=by have:=ca pp;simpa using this
 have hpl':ps.length<300:=by simpa using U
 have hh:=I.ok.hd hc;refine gf kind_sorted plain_sorted entry_sorted (args_sorted1 _) ?_;unfold cv.«sorted»;refine aa (m:=checkCount "sorted" 1 1 _) (ad ?_);refine aa (ST.collectT (by simp[hh]) hg hf G L (by lia) λvals h1 d B kp=>?_)
 obtain⟨ps',j,z⟩:=ST.paired_perm B pp;have hvl:vals.length=ps'.length:=ca z;have hpl2:ps'.length=ps.length:=j.length_eq;have Y:Inv X pins σ H {s with heap:=h1,drawn:=d}:=(I.kept (t':=s.toks) kp).drawn d
 refine aa (ju ?_ (by rw[bK];lia))
 have D:(h1.push (b4 "list" vals.toArray 0)).get? h1.objs.size=some (b4 "list" vals.toArray 0):=ar _ rfl;refine aa (bq (b6 slot_list_sort ⟨_,D,rfl⟩ entry_list_sort ?body (args_list_sort _)))
 case body =>
  refine KS.sort_tups (s:={s with heap:=h1.push (b4 "list" vals.toArray 0),drawn:=d}) (ds:=ps'.map (·.2)) (by show X.A.units+1+1<_;lia) D (fQf Y hK (λb o e=>ag _ e) z) ((j.map (·.2)).nodup_iff.mpr nd) (by rw[bK];lia) λidx h' c i1 i2 Z g kk=>⟨_,rfl,ad ⟨_,rfl,?_⟩⟩
  have O:∀i∈idx,i<vals.length:=λi hi=>ax.mp (i1.mem_iff.mp hi);have zv:=KS.paired_idx z ce (V.non,[]) idx O;obtain⟨z1,z2⟩:=bZf zv;have eo:(idx.map λi=>(ps'.map (·.2)).getD i [])=(idx.map λi=>ps'.getD i (V.non,[])).map (·.2):=by
   rw[bI];exact eG λi _=>cQm ps' i
  rw[eo] at i2 Z;have J:H h1.objs.size=none:=Y.hok.fresh (Nat.le_refl _);have sm:Same H (upd H h1.objs.size (.lst ((idx.map λi=>ps'.getD i (V.non,[])).map (·.1)))):=aQt J;have il:idx.length=vals.length:=by have:=i1.length_eq;simpa using this
  have I2:Inv X pins σ (upd H h1.objs.size (.lst ((idx.map λi=>ps'.getD i (V.non,[])).map (·.1)))) {s with heap:=h',drawn:=d}:=Y.laid (t':=s.toks) (λb o e=>kk b o (Nat.ne_of_lt (aA e)) (ag _ e)) (Nat.le_refl _)
   ⟨by simp only[ah];rw[bK];lia,_,c,z1,g⟩
  exact⟨.ref h1.objs.size,_,I2,rfl,q _ _ _ J (Z.trans (j.map (·.2))) i2 z2⟩
end
section
variable{X:Cx}{K:Fg}{pos:Pos}{k:Nat}{F:Am}{S:Sto}{H:Hp}
theorem Rp.ntup(r:Rp K F S H){a:Addr}{xs:List V}(h:Rd H a (.tup xs)):¬ mt S F a:=λz=>by
 have no:∀u,H a=some u->(∀ys,u≠.tup ys)->(∀o ys,u≠.frz o (.tup ys))->False:=λu e J G=>by
  rcases h with h|⟨o,h⟩
  ·rw[e] at h;exact J _ (aO h)
  ·rw[e] at h;exact G _ _ (aO h)
 rcases z with z|z
 ·cases e:S a with
  |none=>exact z e
  |some o =>
   have q:=r.obj a o e;cases o with
   |lst ds=>obtain⟨us,j,_⟩:=q;exact no _ j (λ_ z=>by cases z) λ_ _ z=>by cases z
   |dk B=>obtain⟨us,j,_⟩:=q;exact no _ j (λ_ z=>by cases z) λ_ _ z=>by cases z
   |dt B=>obtain⟨us,j,_⟩:=q;exact no _ j (λ_ z=>by cases z) λ_ _ z=>by cases z
   |tb ps L=>obtain⟨us,j,_⟩:=q;exact no _ j (λ_ z=>by cases z) λ_ _ z=>by cases z
   |ex f O hl=>obtain⟨us,j,D⟩:=hl _ _ _ q;exact no _ j (λ_ z=>by subst z;exact D) λ_ _ z=>by subst z;exact D
 ·obtain⟨⟨zs,e,ct⟩,_⟩:=r.frm a z;exact no _ e (λ_ z=>by subst z;exact ct) λ_ _ z=>by subst z;exact ct
theorem bZq(r:Rp K F S H):∀{xs:List V}{ts:List (List Str)},bi (dT K dS H) xs ts->RepL K (mt S F) H (ts.map tupS) xs
 |_,_,.nil=>RepL.nil
 |_,_,.cons ⟨a,us,e,sq,p⟩ q=>by
  refine RepL.cons ?_ (bZq r q);subst e;unfold tupS RepV;refine⟨a,us,rfl,?_,cJb p⟩;rcases sq with h|h
  ·exact .inl ⟨r.ntup h,h⟩
  ·exact .inr (.inr h)
def eZt(b:Bool)(te:ED):ED:=fun Γ S Q=>te Γ S λd S1=>∃ts:List (List Str),lsIs S1 d (ts.map tupS)/\ts.length<300/\∀out:List (List Str),out.Nodup->(∀t,t∈out↔t∈ts)->out.Pairwise (λa b=>HT.lexS a b=true)->newL b (out.map tupS) S1 Q
theorem bJu{b:Bool}{e:Expr}{te:ED}{p p' pos':Pos}(hr:Room k X.A)(hg:Gl X "sorted")(hm:X.mg "sorted"=none)(hg':Gl X "set")(hm':X.mg "set"=none)(he:PD K X e te)(hK:X.K=K:=by rfl)(hc:X.calm=true:=by rfl)
  (h1:aC [e] X.env=(false,eval e X.env)::aC [] X.env:=by rfl) (h2:aC [Expr.Call (.Name "set" p') [e] [] pos'] X.env=(false,eval (Expr.Call (.Name "set" p') [e] [] pos') X.env)::aC [] X.env:=by rfl) (h3:(cO pos (aC [] X.env)).any (·.1)=false:=by rfl) (h4:(cO pos' (aC [] X.env)).any (·.1)=false:=by rfl) :
  PD K X (.Call (.Name "sorted" p) [.Call (.Name "set" p') [e] [] pos'] [] pos) (eZt b te) :=
 .of (aJl (aXf (lt64 hr) hK rfl hc) hg hm aXn (aJt (bXc (cZs (lt64 hr) hK rfl hc) hg' hm' eJr (aJt he.o bX9 h1) (by decide) (by decide) h1 h4) bX9 h2) (by decide) (by decide) h2 h3) fun σ H Q L=>L.el λF S Γ QD r g q c =>
 ⟨F,S,Γ,_,r,g,q,λv d H1 B U G v1 J=>by
  obtain⟨Y,hl,z,Z⟩:=J;obtain⟨a,us,rfl,sq,lu⟩:=lsIs.sl G v1 hl;refine⟨_,Y,rfl,⟨a,us,rfl,sq,bJt lu⟩,by lia,λp ms H2 s2 nd mem st=>⟨_,ms,rfl,st,nd,?_,λl ys out j pm pw pp=>?_⟩⟩
  ·exact Nat.lt_of_le_of_lt (eQj nd mem).1 z
  ·have D:Rp K F B H2:=G.same s2;have O:Ext B H1 B H2:=Ext.same s2;exact Cn.new (Cn.shift c (U.trans O)) D j (bZq D pp) (Z out (pm.nodup_iff.mpr nd) (λt=>(pm.mem_iff).trans (mem t)) pw)⟩
end
end L2
set_option maxHeartbeats 1000000
namespace L2
open PySem PySem.Spec PyProof.Rows
section
variable{X:Cx}
def dSs(w:aN):Dn (List Str):=λH v ms=>∃p es ep t,v=.ref p/\H p=some (stO p es ep t)/\t.fits es.size=true/\t.led=ST.ledOf w/\(t.plain=true->es.size<=1)/\jZ (es.toList.map (·.2)) ms
theorem bXt{l l':List ae}(p:l'.Perm l):∀{m:List Str},jZ l m->∃m',m'.Perm m/\jZ l' m':=by
 induction p with
 |nil=>intro m h;exact⟨m,.refl _,h⟩
 |cons x p L =>
  intro m h;cases h with
  |cons y t r =>
   obtain⟨m',J,h'⟩:=L r;exact⟨_::m',J.cons _,.cons _ _ h'⟩
 |swap x y l =>
  intro m h;cases h with
  |cons y t r =>
   cases r with
   |cons z u r=>exact⟨_,.swap _ _ _,.cons _ _ (.cons _ _ r)⟩
 |trans p q B j =>
  intro m h;obtain⟨m1,G,h1⟩:=j h;obtain⟨m2,D,h2⟩:=B h1;exact⟨m2,D.trans G,h2⟩
def dQ0(w:aN):List V->Hp->VK->Prop:=λxs H Q=>∃x ms,xs=[x]/\dSs w H x ms/\ms.Nodup/\ms.length<300/\∀(l:Addr) (out:List Str),H l=none->out.Perm ms->out.Pairwise (λa b=>HT.ltS a b=true)->Q (.ref l) (upd H l (.lst (out.map V.str)))
theorem bZr{w:aN}(hw:X.w=w:=by rfl)(hc:X.calm=true:=by rfl):CallR X (.builtin "sorted") (dQ0 w):=by
 subst hw;intro pins s σ H xs us Q I r h;obtain⟨x,ms,rfl,⟨p,es,ep,t,rfl,hH,hf,J,O,pp⟩,nd,h64,q⟩:=h;obtain⟨u,rfl,rx⟩:=aXx r;cases rx;obtain⟨hg,_⟩:=I.hok p _ hH;have hl:es.size=ms.length:=by have:=pp.length;simpa using this
 have hh:=I.ok.hd hc;refine gf kind_sorted plain_sorted entry_sorted (args_sorted1 _) ?_;unfold cv.«sorted»;refine aa (m:=checkCount "sorted" 1 1 _) (ad ?_);refine aa (ST.collectT (by simp[hh]) hg hf J O (by omega) λvals h1 d G kp=>?_)
 obtain⟨ms',j,z⟩:=bXt G pp;have hvl:vals.length=ms'.length:=z.length;have hml:ms'.length=ms.length:=j.length_eq;have I1:Inv X pins σ H {s with heap:=h1,drawn:=d}:=(I.kept (t':=s.toks) kp).drawn d
 refine aa (ju ?_ (by rw[bK];omega))
 have B:(h1.push (b4 "list" vals.toArray 0)).get? h1.objs.size=some (b4 "list" vals.toArray 0):=ar _ rfl;refine aa (bq (b6 slot_list_sort ⟨_,B,rfl⟩ entry_list_sort (SF.treeK strKind_oneLt (s:={s with heap:=h1.push (b4 "list" vals.toArray 0),drawn:=d}) B z.keysOf (λZ Y rest e=>keyKind_strs (by rw[<- e];exact z)) (by rw[bK];omega) λD a1 a2=>⟨_,rfl,?_⟩) (args_list_sort _)))
 refine ad ⟨_,rfl,?_⟩;obtain⟨out,o1,L,o3⟩:=sorted_out_str z a1 a2;obtain⟨v1,_⟩:=bZg (H:=H) o1;have U:H h1.objs.size=none:=I1.hok.fresh (Nat.le_refl _);obtain⟨e,he⟩:=sortedHeap_at (out:=(aT D).map (·.2)) B;have hol:=L.length_eq;have I2:Inv X pins σ (upd H h1.objs.size (.lst (out.map V.str))) {s with heap:=h9 (h1.push (b4 "list" vals.toArray 0)) h1.objs.size vals ((aT D).map (·.2)),drawn:=d}:=I1.laid (t':=s.toks) (λb o g=>(sortedHeap_old (Nat.ne_of_lt (aA g)) (Nat.lt_trans (aA g) (aA B))).trans (ag _ g)) (Nat.le_refl _)
  ⟨by rw[ah,bK];omega,((aT D).map (·.2)).toList,e,v1,by rw[Array.toArray_toList];exact he⟩
 exact⟨.ref h1.objs.size,_,I2,rfl,q _ _ U (L.trans j) (dXy o3 ((L.trans j).nodup_iff.mpr nd))⟩
end
section
variable{X:Cx}{K:Fg}{pos:Pos}{k:Nat}
theorem fZn{M:Am}{H:Hp}:∀ss:List Str,RepL K M H (ss.map D.str) (ss.map V.str)
 |[]=>RepL.nil
 |s::ss=>RepL.cons (by unfold RepV;rfl) (fZn ss)
end
end L2
set_option maxHeartbeats 4000000
namespace L2
open PySem PySem.Spec PyProof.Rows
end L2
set_option maxHeartbeats 1000000
namespace L2
open PySem PySem.Spec PyProof.Rows
section
variable{X:Cx}{K:Fg}{pos:Pos}
theorem fZo:cI "abs"=some (.builtin "abs"):=by decide +kernel
def absD:RCD:=λds S Q=>match ds with
 |[.int i]=>Q (.int (if i<0 then -i else i)) S
 |_=>False
theorem fZp{e:Expr}{t:AD}{p:Pos}(hg:Gl X "abs")(hm:X.mg "abs"=none)(ha:PAD K X [e] t)(he:aC [e] X.env=(false,eval e X.env)::aC [] X.env:=by rfl)(hpl:(cO pos (aC [] X.env)).any (·.1)=false:=by rfl):PD K X (.Call (.Name "abs" p) [e] [] pos) (dCB absD t):=aJ3 dQt (by
 intro F S H ds vs Q QD r l h c
 match ds,h with
 |[.int i],q =>
  obtain⟨v,rfl,j⟩:=l.one;rw[rint j];exact⟨i,rfl,c _ _ _ S (Ext.refl _ _) r (by unfold RepV;rfl) q⟩) hg hm fZo ha (by decide) (by decide) he hpl
end
def emitOfS(elt:Expr)(acc:ae)(env:Env):Sem Unit:=eval elt env>>=λx=>fX elt.pos>>=λ_=>call (.builtin "set.add") [acc,x]>>=λ_=>pure ()
theorem bXu(elt target iter:Expr)(ifs:List Expr)(scope:Scope)(pos:Pos)(it acc:ae)(env:Env) :
  eS (.SetComp elt [⟨target,iter,ifs,0⟩] scope pos) 0 it acc env=aQw target ifs iter.pos (emitOfS elt acc env) (.compLoop (.SetComp elt [⟨target,iter,ifs,0⟩] scope pos) 0 it acc env) it env:=by
 unfold aQw aJy emitOfS;show(fX iter.pos>>=λ_=>eV it>>=λr=>_)=_;refine bind_congr λ_=>bind_congr λr=>?_;cases r with
 |none=>rfl
 |some v =>
  show(e8 target it v>>=λ_=>jn target env v>>=λ_=>(forIn ifs true _>>=λok=>_))=_;refine bind_congr λ_=>bind_congr λ_=>bind_congr λok=>?_;cases ok <;> rfl
theorem cZw(elt target iter t2 i2:Expr)(ifs ifs2:List Expr)(scope:Scope)(pos:Pos)(it acc:ae)(env:Env) :
  eS (.SetComp elt [⟨target,iter,ifs,0⟩,⟨t2,i2,ifs2,0⟩] scope pos) 0 it acc env=aQw target ifs iter.pos (innerOf (.SetComp elt [⟨target,iter,ifs,0⟩,⟨t2,i2,ifs2,0⟩] scope pos) i2 acc env) (.compLoop (.SetComp elt [⟨target,iter,ifs,0⟩,⟨t2,i2,ifs2,0⟩] scope pos) 0 it acc env) it env:=by
 unfold aQw aJy innerOf;show(fX iter.pos>>=λ_=>eV it>>=λr=>_)=_;refine bind_congr λ_=>bind_congr λr=>?_;cases r with
 |none=>rfl
 |some v =>
  show(e8 target it v>>=λ_=>jn target env v>>=λ_=>(forIn ifs true _>>=λok=>_))=_;refine bind_congr λ_=>bind_congr λ_=>bind_congr λok=>?_;cases ok with
  |false=>rfl
  |true =>
   simp only[bind_assoc,jA]
   rfl
theorem cZx(elt target iter t2 i2:Expr)(ifs ifs2:List Expr)(scope:Scope)(pos:Pos)(it acc:ae)(env:Env) :
  eS (.SetComp elt [⟨target,iter,ifs,0⟩,⟨t2,i2,ifs2,0⟩] scope pos) 1 it acc env=aQw t2 ifs2 i2.pos (emitOfS elt acc env) (.compLoop (.SetComp elt [⟨target,iter,ifs,0⟩,⟨t2,i2,ifs2,0⟩] scope pos) 1 it acc env) it env:=by
 unfold aQw aJy emitOfS;show(fX i2.pos>>=λ_=>eV it>>=λr=>_)=_;refine bind_congr λ_=>bind_congr λr=>?_;cases r with
 |none=>rfl
 |some v =>
  show(e8 t2 it v>>=λ_=>jn t2 env v>>=λ_=>(forIn ifs2 true _>>=λok=>_))=_;refine bind_congr λ_=>bind_congr λ_=>bind_congr λok=>?_;cases ok <;> rfl
def TKp(H H':Hp):Prop:=∀a xs,Rd H a (.tup xs)->Rd H' a (.tup xs)
abbrev PVk{κ:Type}(rp:Hp->V->κ->Prop)(H:Hp):ae->V×κ->Prop:=λv p=>RelV p.1 v/\rp H p.1 p.2
structure SKn(P:au)(w:aN)(K:Fg)(κ:Type) where
 kd:Hp->ST.SetKd P w κ
 rp:Hp->V->κ->Prop
 pI:Array (Int×ae)->a8->List κ->Prop
 toI:∀{X:Cx}{pins σ H s p es ep t} {ps:List (V×κ)},X.prog=P->X.w=w->X.K=K->Inv X pins σ H s->s.heap.get? p=some (ST.setOb es ep t)->pI es t (ps.map (·.2))->bi (PVk rp H) (es.toList.map (·.2)) ps ->
  (kd H).I s.heap p es ep t/\bi (λ(e:Int×ae) k=>(kd H).is s.heap k e.2) es.toList (ps.map (·.2))
 toIs:∀{X:Cx}{pins σ H s} {x:V}{v:ae}{k:κ},X.prog=P->X.w=w->X.K=K->Inv X pins σ H s->RelV x v->rp H x k->(kd H).is s.heap k v
 ofI:∀{H:Hp}{h:bu}{p es ep t} {ks:List κ},(kd H).I h p es ep t->ks.Nodup->bi (λ(e:Int×ae) k=>(kd H).is h k e.2) es.toList ks->∃ps:List (V×κ),bi (PVk rp H) (es.toList.map (·.2)) ps/\ps.map (·.2)=ks/\pI es t ks
 fr:∀led,pI #[] (.fresh 0 0 led) []
 mo:∀{H H':Hp}{v:V}{k:κ},TKp H H'->rp H v k->rp H' v k
def StV{P:au}{w:aN}{K:Fg}{κ:Type}(kn:SKn P w K κ)(H:Hp)(p:Addr)(acc:List κ):Prop:=∃es ep t,∃ps:List (V×κ),H p=some (stO p es ep t)/\t.led=ST.ledOf w/\kn.pI es t (ps.map (·.2))/\bi (PVk kn.rp H) (es.toList.map (·.2)) ps/\(ps.map (·.2)).Nodup/\∀k,k∈ps.map (·.2)↔k∈acc
theorem StV.keep{P:au}{w:aN}{K:Fg}{κ:Type}{kn:SKn P w K κ}{H H':Hp}{p:Addr}{acc:List κ}(h:StV kn H p acc)(e:H' p=H p)(t:TKp H H'):StV kn H' p acc:=by
 obtain⟨es,ep,tb,ps,h1,h2,D,B,q,j⟩:=h;exact⟨es,ep,tb,ps,e.trans h1,h2,D,Paired.imp (λ_ _ z=>⟨z.1,kn.mo t z.2⟩) B,q,j⟩
theorem StV.at{P:au}{w:aN}{K:Fg}{κ:Type}{kn:SKn P w K κ}{H:Hp}{p:Addr}{acc:List κ}(h:StV kn H p acc):∃φ,H p=some (.ext φ):=by
 obtain⟨es,ep,tb,ps,h1,_⟩:=h;exact⟨_,h1⟩
theorem eZu{H:Hp}{p:Addr}{φ:bu->Prop}{o:HO}(h:H p=some (.ext φ)):TKp H (upd H p o):=λa xs r=>by
 have:a≠p:=by
  rintro rfl;rcases r with r|⟨o,r⟩ <;> rw[h] at r <;> cases r
 rcases r with r|⟨o',r⟩
 ·exact .inl (by rw[upd_ne this];exact r)
 ·exact .inr ⟨o',by rw[upd_ne this];exact r⟩
section
variable{X:Cx}{K:Fg}{κ:Type}[DecidableEq κ]
def cQz{P:au}{w:aN}(kn:SKn P w K κ)(p:Addr)(te:TE):TB:=fun σ H N=>te σ H λy H4=>∃acc k,StV kn H4 p acc/\kn.rp H4 y k/\acc.length+1<=300/\∀φ,StV kn (upd H4 p (.ext φ)) p (acc++[k])->N (upd H4 p (.ext φ))
theorem bZs{P:au}{w:aN}{kn:SKn P w K κ}{elt:Expr}{te:TE}{p:Addr}(hxe:X.xe=λ_ _=>False)(hu:X.A.units+1<cB)(hP:X.prog=P)(hw:X.w=w)(hK:X.K=K)(he:PE X elt te):PB X (emitOfS elt (.ref p) X.env) (cQz kn p te):=by
 intro pins s σ H N I h;unfold emitOfS;have h1:=he pins s σ H _ I h;rw[hxe] at h1;refine aa (thn h1 λy s1 ⟨v,H1,Z,r1,acc,k,st,rk,hn,n⟩=>aa (eK (aa ?_)));obtain⟨es,ep,t,ps,hp,Y,hpi,hpp,hnd,U⟩:=id st;subst hP hw;obtain⟨ho,_⟩:=Z.hok p _ hp;obtain⟨i1,i2⟩:=kn.toI rfl rfl hK Z ho hpi hpp;have isk:=kn.toIs rfl rfl hK Z r1 rk;have M:ST.Mem (kn.kd H1) s1.heap p acc (ST.ledOf X.w) (ps.map (·.2)):=⟨⟨es,ep,t,i1,Y,i2⟩,hnd,U⟩;refine b6 F.slot_set_add ⟨_,ho,rfl⟩ F.entry_set_add ?_ (F.args_set_add_2 _ _);unfold cv.«set.add» cv.Frozenset.oneOther;simp only[jH,bind_assoc];unfold js;refine aa (ad ?_)
 try dsimp only
 refine aa (ad ?_)
 try dsimp only
 refine aa ?_;refine ST.addM (kn.kd H1) (show X.A.units+1<cB by omega) M isk (by have:=M.size;omega) λh' tk ks' M' sb kp tk'=>?_
 show aE _ _ (ret ce) _ _ _;refine ad ⟨_,rfl,ad ?_⟩;obtain⟨D,G,t',J,q,i2'⟩:=M'.ex;obtain⟨ps',L,B,O⟩:=kn.ofI J M'.nd i2';have j:=(kn.kd H1).obj J;have I2:Inv X pins σ (upd H1 p (stO p D G t')) {s1 with heap:=h',toks:=tk}:=Z.write (x:=p) (e:=p) (by rw[hp];exact trivial) (.inl rfl) (λb u hb hu=>(sb.2 b hb).trans hu) ⟨_,j⟩ ⟨j,⟨_,j⟩,λg1 g2 g k=>k _ g⟩
 have tk1:TKp H1 (upd H1 p (stO p D G t')):=eZu hp;refine⟨σ,_,I2,Wk.refl σ,n _ ⟨D,G,t',ps',aQ8,q,by rw[B];exact O,Paired.imp (λ_ _ z=>⟨z.1,kn.mo tk1 z.2⟩) L,by rw[B];exact M'.nd,by rw[B];exact M'.mem⟩⟩
end
end L2
namespace ST
open PySem PySem.SetTable PySem.Spec PyProof.Rows
end ST
namespace L2
open PySem PySem.Spec PyProof.Rows
def cZy(P:au)(w:aN)(K:Fg):SKn P w K Str where
 kd:=λ_=>ST.strKd P w
 rp:=λ_ v k=>v=.str k
 pI:=λes t _=>t.fits es.size=true/\ElemsOf (eN P w) es.toList/\(t.plain=true->es=#[])
 toI:=λ{X pins σ H s p es ep t ps} _ _ _ _ ho hpi hp=>⟨⟨ho,hpi⟩,by
  generalize es.toList=l at hp
  induction l generalizing ps with
  |nil=>cases hp;exact .nil
  |cons e l ih =>
   cases hp with
   |cons h1 h2 =>
    refine .cons ?_ (ih h2);obtain⟨r,e1⟩:=h1;rw[e1] at r;obtain⟨t',e2⟩:=r;have e2:e.2=_:=e2;show fh _ e.2=true;rw[e2];simp[fh]⟩
 toIs:=λ{X pins σ H s x v k} _ _ _ _ r e=>by
  rw[e] at r;obtain⟨t',e2⟩:=r;rw[e2];have z:fh k (jx k t')=true:=by simp[fh]
  exact z
 ofI:=λ{H h p es ep t ks} hI nd hp=>by
  clear nd;refine(λ⟨ps,a,b⟩=>⟨ps,a,b,hI.2⟩) (?_:∃ps:List (V×Str),bi (PVk (λ_ v k=>v=.str k) H) (es.toList.map (·.2)) ps/\ps.map (·.2)=ks);generalize es.toList=l at hp
  induction l generalizing ks with
  |nil=>cases hp;exact⟨[],.nil,rfl⟩
  |cons e l ih =>
   cases hp with
   |cons h1 h2 =>
    obtain⟨ps,a,b⟩:=ih h2;obtain⟨tk,e1⟩:=fq (show fh _ e.2=true from h1)
    exact⟨(.str _,_)::ps,.cons ⟨⟨tk,e1⟩,rfl⟩ a,by rw[aU,b]⟩
 fr:=λled=>⟨rfl,ST.empty_el,λ_=>rfl⟩
 mo:=λ_ h=>h
theorem fZq{K:Fg}{H H':Hp}{v:V}{k:List Str}(t:TKp H H')(h:dT K dS H v k):dT K dS H' v k:=by
 obtain⟨a,xs,e,sq,p⟩:=h;refine⟨a,xs,e,?_,p⟩;rcases sq with sq|sq
 ·exact .inl (t a xs sq)
 ·exact .inr sq
def bJv(P:au)(w:aN)(K:Fg):SKn P w K (List Str) where
 kd:=λH=>ST.restr (ST.tupKd P w) λk v=>∃x,RelV x v/\dT K dS H x k
 rp:=λH v k=>dT K dS H v k
 pI:=λes t ks=>ST.SetI es t/\bi (λ(e:Int×ae) k=>e.1=ST.hashT P w k) es.toList ks/\(t.plain=true->∀k∈ks,k=[])
 toI:=λ{X pins σ H s p es ep t ps} e1 e2 e3 I ho hpi hp=>by
  subst e1 e2 e3;obtain⟨h1,h2,h3⟩:=hpi;have is:bi (λ(e:Int×ae) k=>(ST.TK X.prog X.w s.heap k e.2/\∃x,RelV x e.2/\dT X.K dS H x k)/\e.1=ST.hashT X.prog X.w k) es.toList (ps.map (·.2)):=by
   clear h3 h1 ho;generalize es.toList=l at hp h2
   induction l generalizing ps with
   |nil=>cases hp;exact .nil
   |cons e l ih =>
    cases hp with
    |cons q1 q2 =>
     cases h2 with
     |cons z1 z2 =>
      refine .cons ⟨⟨?_,_,q1.1,q1.2⟩,z1⟩ (ih q2 z2);obtain⟨r,b,ys,e3,hq,pp⟩:=q1;rw[e3] at r;have r:e.2=.ref b:=r;obtain⟨its,ri,tp,_⟩:=I.tuple hq;rw[r];exact dZc (K:=X.K) pp ri tp
  refine⟨⟨⟨⟨ho,h1⟩,λe he=>?_,λhpl e he=>?_⟩,λe he=>?_⟩,Paired.imp (λ_ _ z=>z.1) is⟩
  ·obtain⟨k,_,q⟩:=ST.paired_mem is e he;exact⟨k,q.1.1,q.2⟩
  ·obtain⟨k,hk,q⟩:=ST.paired_mem is e he;rw[h3 hpl k hk] at q;exact q.1.1
  ·obtain⟨k,_,q⟩:=ST.paired_mem is e he;exact⟨k,q.1⟩
 toIs:=λ{X pins σ H s x v k} e1 e2 e3 I r d=>by
  subst e1 e2 e3;refine⟨?_,x,r,d⟩;obtain⟨b,ys,e3,hq,pp⟩:=d;rw[e3] at r;have r:v=.ref b:=r;obtain⟨its,ri,tp,_⟩:=I.tuple hq;rw[r];exact dZc (K:=X.K) pp ri tp
 ofI:=λ{H h p es ep t ks} hI nd hp=>by
  obtain⟨ps,a,b⟩:=eQw (K:=K) (H:=H) hp;refine⟨ps,a,b.symm,hI.1.1.inv,?_,λhpl k hk=>?_⟩
  ·have hel:=hI.1.2.1;clear a b nd hI;generalize es.toList=l at hp hel
   induction l generalizing ks with
   |nil=>cases hp;exact .nil
   |cons e l ih =>
    cases hp with
    |cons q1 q2 =>
     refine .cons ?_ (ih q2 λe he=>hel e (ao _ he));obtain⟨k,z1,z2⟩:=hel e ak;rw[z2,z1.inj q1.1]
  ·obtain⟨e,he,q⟩:=ST.paired_mem' hp k hk;exact q.1.inj (hI.1.2.2 hpl e he)
 fr:=λled=>⟨ST.fresh_ok _ _ _,.nil,λ_ k hk=>by cases hk⟩
 mo:=λt h=>fZq t h
theorem bZt{prog:au}{w:aN}{A:bj}{R:Result->aj->Prop}{s:aj}{elt target iter:Expr}{ifs:List Expr}{rest:List fk}{scope:Scope}{pos:Pos}{it acc:ae}{env:Env}
  (h0:fB (aF prog w) A (.compLoop (.SetComp elt (⟨target,iter,ifs,0⟩::rest) scope pos) 0 it acc env) R s)
  (h:aE (aF prog w) A (jo it) (λit' s'=>fB (aF prog w) A (.compLoop (.SetComp elt (⟨target,iter,ifs,0⟩::rest) scope pos) 0 it' acc env) R s')
   (notedBy (aF prog w) A env λx s'=>R (.error x) s') s) :
  fB (aF prog w) A (.compStart (.SetComp elt (⟨target,iter,ifs,0⟩::rest) scope pos) 0 it acc env) R s:=by
 refine iu ?_;show aE _ _ ((compStart (.SetComp elt (⟨target,iter,ifs,0⟩::rest) scope pos) 0 it acc env).onRaise (λx=>do noteFrame x env;fX theWindowsPlace)) _ _ s
 refine wpAny_notedAt ?_;unfold compStart;show aE _ _ (ask>>=_) _ _ s;refine aa (dl (wpAny_ite ?_))
 split
 ·first
   |exact aa (ad (ad (jB rfl h0)))
   |exact ad (jB rfl h0)
 ·refine aa (dG ?_);show aE _ _ (fX iter.pos>>=_) _ _ s;exact aa (eK (aa (eB h (λit' s' h'=>ad (jB rfl h')) λ_ _ x=>x)))
section
variable{X:Cx}{K:Fg}{κ:Type}{pins:List (Addr×Obj)}{σ:St}{H:Hp}{s:aj}
def bQd{P:au}{w:aN}(kn:SKn P w K κ)(is:List (Option Nat))(wi:TI)(g:TG)(tt:TT)(tb:Addr->TB):TE:=fun σ H Q=>wi σ H λJ H1=>∀p,H1 p=none->∀φ,StV kn (upd H1 p (.ext φ)) p []->bJ9 J (capt is σ) g tt (tb p) (Q (.ref p)) (upd H1 p (.ext φ))
theorem comp_genS{P:au}{w:aN}{kn:SKn P w K κ}(hw:X.w=w){elt target iter:Expr}{ifs:List Expr}{gs:List fk}{scope:Scope}{pos:Pos}{N':List Str}{is:List (Option Nat)}{wi:TI}{g:TG}{tt:TT}{tb:Addr->TB}{oc:Option Str}{m:ae->Env->Sem Unit}(hcalm:X.calm=true)(hN:X.N.Nodup)
  (hturn:∀it acc env,eS (.SetComp elt (⟨target,iter,ifs,0⟩::gs) scope pos) 0 it acc env=aQw target ifs iter.pos (m acc env) (.compLoop (.SetComp elt (⟨target,iter,ifs,0⟩::gs) scope pos) 0 it acc env) it env)
  (cp:Cap X.N scope N' is) (hi:PI X target iter wi)
  (hg:∀cl C fp s H,PG (aQa X N' scope cl C fp s H oc) target g) (ht:∀cl C fp s H,PTs (aQa X N' scope cl C fp s H oc) ifs tt) (hb:∀cl C fp s H D,PB (aQa X N' scope cl C fp s H oc) (m (.ref D) (gM scope cl C X.env)) (tb D))
  (hcf:∀n acc,e9 n scope.names acc=ocl oc n acc) (hpc:∀h,f6 h scope.names=ohp oc h)
  (hkind:scope.kind=.function) (hcell:∀y∈scope.names,y.2=.cell->oc=some y.1)
  (hu:∀y∈scope.names,scope.names.lookup y.1=some y.2) (hoc:∀x,oc=some x->scope.names.lookup x=some .cell)
  (hVb:okV scope.names X.env.scope.names=true)
  (hs:∀x,cq iter X.env x=pure x)
  {use:Option (ae->Sem Unit)}{Q:VK}{Qv:ae->aj->Prop}(I:Inv X pins σ H s) (h:bQd kn is wi g tt tb σ H Q)
  (fin:∀D C H5 s6,Inv X pins σ H5 s6->(∃m,s6.heap.Ns C m)->FrC X pins C H5->Q (.ref D) H5->compPost (aF X.prog X.w) X.A X.xe use Qv (.ref D) C (.ok .next) s6) :
  aE (aF X.prog X.w) X.A (comprehension (.SetComp elt (⟨target,iter,ifs,0⟩::gs) scope pos) scope X.env (firstIterPos (⟨target,iter,ifs,0⟩::gs) pos) (newSet (.type "set")) (firstAsync (⟨target,iter,ifs,0⟩::gs)) (firstIter (⟨target,iter,ifs,0⟩::gs) X.env) use) Qv X.xe s:=by
 have hV:=dXo hVb;have hV':∀x,(x,bg)∈scope.names->Vis X.env.scope x/\X.env.scope.names.lookup x≠some .local:=λx j=>hV (x,.free) j rfl;have hu':∀x,(x,bg)∈scope.names->scope.names.lookup x=some .free:=λx j=>hu (x,.free) j;have B:∀x∈scope.names,x.2=.local->scope.names.lookup x.1=some .local:=λx j hl=>by rw[hu x j,hl]
 obtain⟨cl,L,c1,c2,c3⟩:=aXe (env:=X.env) (scope:=scope) λx j=>I.ok.has x (by
  obtain⟨v,n⟩:=hV' x j;rcases v with v|v|v
  ·exact absurd v n
  ·exact .inl v
  ·exact .inr v)
 have hun:∀x,oc=some x->cl.lookup x=none:=λx j=>by
  cases e:cl.lookup x with
  |none=>rfl
  |some c =>
   have:=hu' x (c3 x c e)
   rw[hoc x j] at this;cases this
 refine wpAny_comprehension_free (use:=use) rfl hs L hkind B (thn (hi pins s σ H _ I h) λv s1 h1=>thn h1 λitv s2 h2=>?_);obtain⟨it,fp,tn,J,H2,rfl,I2,T,st2,f2,q2⟩:=h2;unfold newSet jX;refine aa (aa (dl (ad ?_)));dsimp only;refine bA ?_;have hD:H2 s2.heap.objs.size=none:=I2.hok.fresh (Nat.le_refl _);have fpl:∀b∈fp,b<s2.heap.objs.size:=λb hb=>by obtain⟨o,e,_⟩:=T.obj _ _ st2 b hb;exact aA e
 have led:(!(X.w.params.followText "set-order"))=ST.ledOf X.w:=rfl;have O:Inv X pins σ (upd H2 s2.heap.objs.size (stO s2.heap.objs.size #[] 0 (.fresh 0 0 (ST.ledOf X.w)))) {s2 with heap:=s2.heap.push (ST.setOb #[] 0 (.fresh 0 0 (ST.ledOf X.w)))} :=
  I2.laid (t':=s2.toks) (λb u e=>ag _ e) (Nat.le_refl _) ⟨ar _ rfl,⟨_,ar _ rfl⟩,λg1 g2 g k=>k _ g⟩
 have st3:tn 0 (s2.heap.push (ST.setOb #[] 0 (.fresh 0 0 (ST.ledOf X.w)))):=T.keep _ _ _ st2 λb hb o e=>ag _ e;have U:∀b∈fp,FpOk X pins (upd H2 s2.heap.objs.size (stO s2.heap.objs.size #[] 0 (.fresh 0 0 (ST.ledOf X.w)))) b:=λb hb=>⟨by rw[upd_ne (Nat.ne_of_lt (fpl b hb))];exact(f2 b hb).1,(f2 b hb).2⟩
 have G:∀b∈fp,b<(s2.heap.push (ST.setOb #[] 0 (.fresh 0 0 (ST.ledOf X.w)))).objs.size:=λb hb=>by rw[cV];exact Nat.lt_succ_of_lt (fpl b hb)
 have q3:=q2 _ hD _ (⟨#[],0,_,[],aQ8,by rw[<- hw];rfl,kn.fr _,.nil,eT,λ_=>Iff.rfl⟩:StV kn (upd H2 s2.heap.objs.size (stO s2.heap.objs.size #[] 0 (.fresh 0 0 (ST.ledOf X.w)))) _ [])
 show aE (aF X.prog X.w) X.A _ _ X.xe {s2 with heap:=s2.heap.push (ST.setOb #[] 0 (.fresh 0 0 (ST.ledOf X.w)))}
 change bJ9 _ _ _ _ _ _ (upd H2 s2.heap.objs.size (stO s2.heap.objs.size #[] 0 (.fresh 0 0 (ST.ledOf X.w)))) at q3;generalize hob:ST.setOb #[] 0 (.fresh 0 0 (ST.ledOf X.w))=ob at *
 generalize hso:stO s2.heap.objs.size #[] 0 (.fresh 0 0 (ST.ledOf X.w))=so at *
 generalize hDe:s2.heap.objs.size=D at *
 generalize hs3:({s2 with heap:=s2.heap.push ob}:aj)=s3 at *
 have hsh:s3.heap=s2.heap.push ob:=by rw[<- hs3]
 rw[<- hsh] at st3 G;have ok:=bQv (N':=N') (cl:=cl) (oc:=oc) O U G hkind c1 c2 hcell hun;have I4:=bQ0 O ok hN c1 c2 hu' cp hV' hun;refine cXl ?_;rw[hcf,hpc];have kp:∀b o,s3.heap.get? b=some o->(ohp oc (s3.heap.push {cls:=.type "dict",data:=.dict #[]})).get? b=some o:=λb o e=>aJm (ag _ e);have Z:tn 0 (ohp oc (s3.heap.push {cls:=.type "dict",data:=.dict #[]})):=T.keep _ _ _ st3 λb _ o e=>kp b o e;have f4:∀b∈fp,FpOk (aQa X N' scope (ocl oc (s3.heap.objs.size+1) cl) s3.heap.objs.size fp s3 (upd H2 D so) oc) [] (upd H2 D so) b:=λb hb =>
  ⟨(U b hb).1,(ok.exf b hb).1,ok.exfs b hb,.inl hb,(ok.exf b hb).2,λp hp=>absurd (show p∈([]:List (Addr×Obj)) from hp) (by simp)⟩
 have loop:=bZ7 (X:=aQa X N' scope (ocl oc (s3.heap.objs.size+1) cl) s3.heap.objs.size fp s3 (upd H2 D so) oc) (e:=.SetComp elt (⟨target,iter,ifs,0⟩::gs) scope pos) (d:=0) (acc:=.ref D)
  (R:=compPost (aF X.prog X.w) X.A X.xe use Qv (.ref D) s3.heap.objs.size) hcalm rfl (hturn _ _ _) rfl rfl T (hg _ _ _ _ _) (ht _ _ _ _ _) (hb _ _ _ _ _ D) I4 Z f4 q3 (by
   intro H5 s6 Y _ qn;obtain⟨m6,n6,_⟩:=id Y.loc;have un:Un (frs X.stack) fp (upd H2 D so) H5 s3.heap s6.heap:=Y.base;have hok':HOk X.prog X.w H5 s6.heap:=Y.hok;refine fin D s3.heap.objs.size H5 s6 (O.call' (s':=s6) (ch:=fp) Y.os un hok' Y.bare λb hb=>⟨(U b hb).2.2.2.1,(U b hb).2.1,(U b hb).2.2.2.2.1,(U b hb).2.2.2.2.2⟩) ⟨m6,n6⟩ ⟨Y.free,Nat.ne_of_gt O.lt,O.sz,λx c e z=>?_,λp hp z=>?_⟩ qn
   ·obtain⟨v,q⟩:=O.cell x c e;exact absurd q.lt (by rw[z];exact Nat.lt_irrefl _)
   ·exact absurd (aA (O.pin p hp).1) (by rw[z];exact Nat.lt_irrefl _))
 exact bZt loop (T.self _ 0 _ _ _ Z loop)
theorem bXv{P:au}{w:aN}{kn:SKn P w K κ}{elt target iter:Expr}{ifs:List Expr}{gs:List fk}{scope:Scope}{pos:Pos}{N':List Str}{is:List (Option Nat)}{wi:TI}{g:TG}{tt:TT}{tb:Addr->TB}{oc:Option Str}{m:ae->Env->Sem Unit}(hw:X.w=w)(hcalm:X.calm=true)(hN:X.N.Nodup)
  (hturn:∀it acc env,eS (.SetComp elt (⟨target,iter,ifs,0⟩::gs) scope pos) 0 it acc env=aQw target ifs iter.pos (m acc env) (.compLoop (.SetComp elt (⟨target,iter,ifs,0⟩::gs) scope pos) 0 it acc env) it env)
  (cp:Cap X.N scope N' is) (hi:PI X target iter wi)
  (hg:∀cl C fp s H,PG (aQa X N' scope cl C fp s H oc) target g) (ht:∀cl C fp s H,PTs (aQa X N' scope cl C fp s H oc) ifs tt) (hb:∀cl C fp s H D,PB (aQa X N' scope cl C fp s H oc) (m (.ref D) (gM scope cl C X.env)) (tb D))
  (hcf:∀n acc,e9 n scope.names acc=ocl oc n acc:=by intro _ _;rfl) (hpc:∀h,f6 h scope.names=ohp oc h:=by intro _;rfl)
  (hkind:scope.kind=.function:=by rfl) (hcell:∀y∈scope.names,y.2=.cell->oc=some y.1:=by decide +kernel)
  (hu:∀y∈scope.names,scope.names.lookup y.1=some y.2:=by decide +kernel) (hoc:∀x,oc=some x->scope.names.lookup x=some .cell:=by intro x h;cases h <;> rfl)
  (hVb:okV scope.names X.env.scope.names=true:=by first|rfl|kernel_rfl)
  (hs:∀x,cq iter X.env x=pure x:=by intro _;rfl) :
  PE X (.SetComp elt (⟨target,iter,ifs,0⟩::gs) scope pos) (bQd kn is wi g tt tb):=by
 intro pins s σ H Q I h;rw[arm_eval_SetComp];refine comp_genS hw hcalm hN hturn cp hi hg ht hb hcf hpc hkind hcell hu hoc hVb hs I h λD C G J B ⟨m,n⟩ z q=>?_;exact⟨m,n,λh' j=>⟨.ref D,G,z.gone B j,rfl,q⟩⟩
end
section
variable{X:Cx}{K:Fg}{pos:Pos}{k:Nat}{κ:Type}
theorem eZv{F:Am}{S S':Sto}{H H':Hp}(r:Rp K F S H)(x:Ext S H S' H'):TKp H H':=λa xs h=>by
 have j:S a=none:=aR λn=>r.ntup h (.inl n);rcases h with h|⟨o,h⟩
 ·exact .inl (x.keep _ _ j h)
 ·exact .inr ⟨o,x.keep _ _ j h⟩
def aZt{P:au}{w:aN}(kn:SKn P w K κ)(enc:κ->D)(L:List Nat)(tv:Addr->TB)(td:BD):Prop:=∀D' F S H Γ σ acc N QD,Free L σ->F D'->Rp K F S H->RepG K (mt S F) H Γ σ->StV kn H D' acc->td Γ S (acc.map enc) QD ->
 (∀acc' S' H',ExtX D' S H S' H'->Rp K F S' H'->StV kn H' D' acc'->QD (acc'.map enc) S'->N H')->tv D' σ H N
def eZw(enc:κ->D)(te:ED):BD:=fun Γ S acc Q=>te Γ S λy S1=>∃k,y=enc k/\acc.length+1<=300/\Q (acc++[y]) S1
theorem extx_upd{D':Addr}{S:Sto}{H:Hp}{o:HO}:ExtX D' S H S (upd H D' o):=⟨λa o n _ e=>by rw[upd_ne n];exact e,λa h=>by
  by_cases e:a=D'
  ·subst e;rw[aQ8];exact λz=>by cases z
  ·rw[upd_ne e];exact h,λa h=>.inl h⟩
theorem eZx{D':Addr}{F:Am}{S:Sto}{H:Hp}{o:HO}(r:Rp K F S H)(hF:F D')(ho:Clt o):Rp K F S (upd H D' o) :=
 ⟨λa u e=>(r.obj a u e).keep (extx_upd.kp hF) (upd_ne (by rintro rfl;rw[(r.frm a hF).2] at e;cases e)),λa h=>by
   obtain⟨⟨ys,e,ct⟩,h2⟩:=r.frm a h
   by_cases z:a=D'
   ·subst z;exact⟨⟨_,aQ8,ho⟩,h2⟩
   ·exact⟨⟨ys,by rw[upd_ne z];exact e,ct⟩,h2⟩⟩
theorem cZ0{P:au}{w:aN}{kn:SKn P w K κ}{enc:κ->D}(hrep:∀M H k v,RepV K M H (enc k) v->kn.rp H v k){L:List Nat}{te:ED}:aZt kn enc L (λD'=>cQz kn D' (upE K te)) (eZw enc te):=by
 intro D' F S H Γ σ acc N QD _ G r g st q c;refine⟨F,S,Γ,_,r,g,q,λv d H1 S1 j J v1 ⟨k,e,U,O⟩=>?_⟩;have Y:S D'=none:=(r.frm D' G).2;obtain⟨φ0,h0⟩:=st.at
 have Z:H1 D'=H D':=by rw[h0];exact j.keep _ _ Y h0
 have B:StV kn H1 D' acc:=st.keep Z (eZv r j);subst e;refine⟨acc,k,B,hrep _ _ _ _ v1,by simpa using U,fun φ z=>c (acc++[k]) S1 _ (j.x.trans extx_upd) (eZx J G trivial) z (by rw[aZ];exact O)⟩
theorem cZ1{P:au}{w:aN}{kn:SKn P w K κ}{enc:κ->D}{L L':List Nat}{g:TG}{gd:GD}{tt:TD}{tv:Addr->TB}{tb:BD}(hg:CG K L L' g gd)(hb:aZt kn enc L' tv tb){D':Addr}{F:Am}{S:Sto}{H:Hp}{Γ:Gm}{σ:St}{acc:List κ}{N:Hp->Prop}{QD:List D->Sto->Prop}{J:It}{xs:List D}{G:Sto->Prop}
  (f:Free L σ) (hF:F D') (r:Rp K F S H) (gm:RepG K (mt S F) H Γ σ) (st:StV kn H D' acc) (it:∀S2 H2,ExtX D' S H S2 H2->Rp K F S2 H2->G S2->(∀i d,xs[i]?=some d->J.go i H2/\∀x H3,J.yld i H2 x H3->Ext S2 H2 S2 H3/\Rp K F S2 H3/\RepV K (mt S2 F) H3 d x)/\J.stop xs.length H2)
  (q:aZd gd tt tb G Γ xs (acc.map enc) S QD) (c:∀acc' S' H',ExtX D' S H S' H'->Rp K F S' H'->StV kn H' D' acc'->QD (acc'.map enc) S'->N H'):bJ9 J σ g (upT K tt) (tv D') N H:=by
 refine⟨λi m H'=>m=xs.length-i/\i<=xs.length/\∃S' acc',ExtX D' S H S' H'/\Rp K F S' H'/\StV kn H' D' acc'/\aZd gd tt tb G Γ (xs.drop i) (acc'.map enc) S' QD,⟨xs.length,by simp,Nat.zero_le _,S,acc,(Ext.refl _ _).x,r,st,by simpa using q⟩,?_⟩
 rintro i m H' ⟨rfl,hi,S',acc',x2,r2,U,f2⟩;have g2:=gm.keep (x2.kp hF)
 by_cases Y:i<xs.length
 ·rw[aX3 Y] at f2;obtain⟨hG,f2⟩:=f2;obtain⟨hgo,hy⟩:=(it S' H' x2 r2 hG).1 i xs[i] (af Y);refine .inr ⟨hgo,λB=>∃Z j,ExtX D' S H Z B/\Rp K F Z B/\StV kn B D' j/\aZd gd tt tb G Γ (xs.drop (i+1)) (j.map enc) Z QD,λB z=>⟨xs.length-(i+1),by omega,rfl,Y,z⟩,λx H3 y3=>?_⟩
  obtain⟨x3,r3,v3⟩:=hy x H3 y3;refine hg F S' H3 Γ σ xs[i] x _ _ f r3 (g2.ext x3) v3 f2 fun Γ4 S4 σ4 H4 x4 r4 g4 wk fr4 q4=>⟨wk,F,S4,Γ4,_,r4,g4,q4,λz H5 S5 x5 r5 q5=>?_⟩;have O:=x3.trans (x4.trans x5);obtain⟨φ0,h0⟩:=U.at
  have h5:H5 D'=H' D':=by rw[h0];exact O.keep _ _ (r2.frm D' hF).2 h0
  have st5:StV kn H5 D' acc':=U.keep h5 (eZv r2 O);have x05:ExtX D' S H S5 H5:=x2.trans O.x;cases z with
  |false=>exact⟨S5,acc',x05,r5,st5,q5⟩
  |true=>exact hb D' F S5 H5 Γ4 σ4 acc' _ _ fr4 hF r5 (g4.ext x5) st5 q5 λacc6 S6 H6 x6 r6 st6 q6=>⟨S6,acc6,x05.trans x6,r6,st6,q6⟩
 ·have e:i=xs.length:=by omega
  subst e;rw[f8] at f2;exact .inl ⟨(it S' H' x2 r2 f2.1).2,c acc' S' H' x2 r2 U f2.2⟩
theorem dQ1{P:au}{w:aN}{kn:SKn P w K κ}{enc:κ->D}{L L':List Nat}{wi:ID}{g:TG}{gd:GD}{tt:TD}{tv:Addr->TB}{tb:BD}(hg:CG K L L' g gd)(hb:aZt kn enc L' tv tb):aZt kn enc L (λD'=>dXp (upI K wi) g (upT K tt) (tv D')) (fZ2 wi gd tt tb):=by
 intro D' F S H Γ σ acc N QD fr O r Z st q c;refine⟨F,S,Γ,_,r,Z,q,λJ xs G H1 S1 B r1 it q1=>?_⟩;obtain⟨φ0,h0⟩:=st.at
 have h1:H1 D'=H D':=by rw[h0];exact B.keep _ _ (r.frm D' O).2 h0
 exact cZ1 hg hb fr O r1 (Z.ext B) (st.keep h1 (eZv r B)) (λS2 H2 z U Y=>⟨it.go F (FE.refl _ _) S2 H2 (z.w O) U Y,it.stop F (FE.refl _ _) S2 H2 (z.w O) U Y⟩) q1 λj S' H' z=>c j S' H' (B.x.trans z)
theorem cZ2{P:au}{w:aN}{kn:SKn P w K κ}{enc:κ->D}{L L':List Nat}{is:List (Option Nat)}{wi:ID}{g:TG}{gd:GD}{tt:TD}{tv:Addr->TB}{tb:BD}(hL:∀σ,Free L (capt is σ))(hg:CG K L L' g gd)(hb:aZt kn enc L' tv tb)
  {σ:St}{H:Hp}{Q:VK}{F:Am}{S:Sto}{Γ:Gm}{QD:List D->Sto->Prop}(r:Rp K F S H) (gm:RepG K (mt S F) H Γ σ) (q:wi Γ S λxs G S1=>aZd gd tt tb G (cJi is Γ) xs [] S1 QD)
  (c:∀p ks H' S',Ext S H S' H'->Rp K F S' H'->StV kn H' p ks->QD (ks.map enc) S'->Q (.ref p) H'):bQd kn is (upI K wi) g (upT K tt) tv σ H Q :=
 ⟨F,S,Γ,_,r,gm,q,λJ xs G H1 S1 x1 Z it q1 D' j φ st=>by
  have O:S1 D'=none:=Z.sn j;have fe:FE F H1 (λa=>F a\/a=D'):=λa h=>h.elim .inl λe=>.inr (by rw[e];exact j)
  have nF:¬ F D':=λh=>by
   obtain⟨⟨ys,e,_⟩,_⟩:=Z.frm D' h;rw[j] at e;cases e
  have xe:Ext S1 H1 S1 (upd H1 D' (.ext φ)):=Ext.same (aQt j);have kp:Keep (mt S1 F) H1 (mt S1 λa=>F a\/a=D') (upd H1 D' (.ext φ)):=xe.w.kpF fe;have Y:Rp K (λa=>F a\/a=D') S1 (upd H1 D' (.ext φ)):=⟨λa o e=>(Z.obj a o e).keep kp (upd_ne (by rintro rfl;rw[O] at e;cases e)),λa h=>by
   rcases h with h|h
   ·obtain⟨⟨ys,e,ct⟩,h2⟩:=Z.frm a h;exact⟨⟨ys,by rw[upd_ne (by rintro rfl;rw[j] at e;cases e)];exact e,ct⟩,h2⟩
   ·subst h;exact⟨⟨_,aQ8,trivial⟩,O⟩⟩
  have old:∀ {B H2},ExtX D' S1 (upd H1 D' (.ext φ)) B H2->Ext S1 H1 B H2:=λ{B H2} y=>⟨λa o h e=>y.keep a o (by rintro rfl;rw[j] at e;cases e) h (by rw[upd_ne (by rintro rfl;rw[j] at e;cases e)];exact e),λa h=>y.live a (xe.live a h),λa h=>by
   rcases y.new a h with z|z
   ·exact .inl z
   ·by_cases e:a=D'
    ·subst e;exact .inr j
    ·rw[upd_ne e] at z;exact .inr z⟩
  refine cZ1 hg hb (hL σ) (F:=λa=>F a\/a=D') (.inr rfl) Y ((gm.ext x1).keep kp |>.capt is) st (λB H2 y Y hG=>⟨it.go _ fe B H2 (old y).w Y hG,it.stop _ fe B H2 (old y).w Y hG⟩) q1 λU S' H' y r3 st3 q3=>?_
  have less:Keep (mt S' λa=>F a\/a=D') H' (mt S' F) H':=⟨λ_ _ _ e=>e,λa h _=>λz=>h (z.elim .inl λw=>.inr (.inl w))⟩;have r4:Rp K F S' H':=⟨λa o e=>(r3.obj a o e).keep less rfl,λa h=>r3.frm a (.inl h)⟩;exact c D' U H' S' (x1.trans (old y)) r4 st3 q3⟩
def srtC(enc:κ->D)(lt:κ->κ->Bool)(b:Bool)(is:List (Option Nat))(wi:ID)(g:GD)(tt:TD)(tb:BD):ED:=fun Γ S Q=>wi Γ S λxs G S1=>aZd g tt tb G (cJi is Γ) xs [] S1 λacc S2=>∃ks:List κ,acc=ks.map enc/\∀out:List κ,out.Nodup->(∀t,t∈out↔t∈ks)->out.length<300/\(out.Pairwise (λa b=>lt a b=true)->newL b (out.map enc) S2 Q)
theorem eZy(M:Am)(H:Hp)(k:Str)(v:V)(h:RepV K M H (.str k) v):v=.str k:=by unfold RepV at h;exact h
theorem aJ7{α β:Type}{f:α->β}(hf:∀x y,f x=f y->x=y):∀{l m:List α},l.map f=m.map f->l=m
 |[],[],_=>rfl
 |[],_::_,h=>by cases h
 |_::_,[],h=>by cases h
 |x::l,y::m,h=>by
  rw[aU,aU] at h;injection h with h1 h2
  rw[hf _ _ h1,aJ7 hf h2]
theorem cZ3(x y:List Str)(h:tupS x=tupS y):x=y:=by
 unfold tupS at h;injection h with h
 exact aJ7 (λa b e=>by injection e) h
section
variable{elt target iter:Expr}{ifs:List Expr}{gs:List fk}{scope:Scope}{N':List Str}{is:List (Option Nat)}{wi:ID}{g:TG}{gd:GD}{tt:TD}{tv:Addr->TB}{tb:BD}{oc:Option Str}{m:ae->Env->Sem Unit}{b:Bool}{p pos':Pos}
theorem eZz(L L':List Nat)(hr:Room k X.A)(hgl:Gl X "sorted")(hm:X.mg "sorted"=none)(hcalm:X.calm=true)(hN:X.N.Nodup)
  (hturn:∀it acc env,eS (.SetComp elt (⟨target,iter,ifs,0⟩::gs) scope pos') 0 it acc env=aQw target ifs iter.pos (m acc env) (.compLoop (.SetComp elt (⟨target,iter,ifs,0⟩::gs) scope pos') 0 it acc env) it env)
  (cp:Cap X.N scope N' is) (hL:∀σ,Free L (capt is σ)) (hi:PID K X target iter wi) (hgd:CG K L L' g gd)
  (hg:∀cl C fp s H,PG (aQa X N' scope cl C fp s H oc) target g) (ht:∀cl C fp s H,PTs (aQa X N' scope cl C fp s H oc) ifs (upT K tt)) (hbd:aZt (cZy X.prog X.w K) D.str L' tv tb) (hb:∀cl C fp s H D,PB (aQa X N' scope cl C fp s H oc) (m (.ref D) (gM scope cl C X.env)) (tv D))
  (hcf:∀n acc,e9 n scope.names acc=ocl oc n acc:=by intro _ _;rfl) (hpc:∀h,f6 h scope.names=ohp oc h:=by intro _;rfl)
  (hkind:scope.kind=.function:=by rfl) (hcell:∀y∈scope.names,y.2=.cell->oc=some y.1:=by decide +kernel)
  (hu:∀y∈scope.names,scope.names.lookup y.1=some y.2:=by decide +kernel) (hoc:∀x,oc=some x->scope.names.lookup x=some .cell:=by intro x h;cases h <;> rfl)
  (hVb:okV scope.names X.env.scope.names=true:=by first|rfl|kernel_rfl)
  (hs:∀x,cq iter X.env x=pure x:=by intro _;rfl)
  (h1:aC [j6 elt (⟨target,iter,ifs,0⟩::gs) scope pos'] X.env=(false,eval (j6 elt (⟨target,iter,ifs,0⟩::gs) scope pos') X.env)::aC [] X.env:=by rfl) (h3:(cO pos (aC [] X.env)).any (·.1)=false:=by rfl) :
  PD K X (.Call (.Name "sorted" p) [.SetComp elt (⟨target,iter,ifs,0⟩::gs) scope pos'] [] pos) (srtC D.str HT.ltS b is wi gd tt tb) :=
 .of (aJl (bZr rfl hcalm) hgl hm aXn (aJt (bXv (kn:=cZy X.prog X.w K) rfl hcalm hN hturn cp hi.o hg ht hb hcf hpc hkind hcell hu hoc hVb hs) bX9 h1) (by decide) (by decide) h1 h3) fun σ H Q Z=>Z.el λF S Γ QD r gm q c =>
  show bQd (cZy X.prog X.w K) is (upI K wi) g (upT K tt) tv σ H (λv H1=>dQ0 X.w [v] H1 Q) from cZ2 hL hgd hbd r gm q λp' ks H' S' x1 r1 st Y=>by
   obtain⟨ks',hk,B⟩:=Y;have G:ks=ks':=aJ7 (λa b e=>by injection e) hk
   subst G;obtain⟨es,ep,t,ps,s1,s2,s3,s4,s5,j⟩:=st;obtain⟨U,q3⟩:=B (ps.map (·.2)) s5 j;have sa:jZ (es.toList.map (·.2)) (ps.map (·.2)):=by
    clear U q3 s5 j s3 B s1;generalize es.toList.map (·.2)=l at s4
    induction s4 with
    |nil=>exact .nil
    |@cons v q l2 ps h1 h2 ih =>
     obtain⟨h1,O⟩:=h1;rw[O] at h1;obtain⟨tk,e⟩:=h1;subst e;exact .cons _ _ ih
   refine⟨_,ps.map (·.2),rfl,⟨p',es,ep,t,rfl,s1,s3.1,s2,λz=>by rw[s3.2.2 z];exact Nat.zero_le _,sa⟩,s5,U,λl out J pm pw=>?_⟩
   exact Cn.new (Cn.shift c x1) r1 J (fZn out) ((B out (pm.nodup_iff.mpr s5) λt=>(pm.mem_iff).trans (j t)).2 pw)
theorem dQ2(L L':List Nat)(hr:Room k X.A)(hgl:Gl X "sorted")(hm:X.mg "sorted"=none)(hcalm:X.calm=true)(hN:X.N.Nodup)
  (hturn:∀it acc env,eS (.SetComp elt (⟨target,iter,ifs,0⟩::gs) scope pos') 0 it acc env=aQw target ifs iter.pos (m acc env) (.compLoop (.SetComp elt (⟨target,iter,ifs,0⟩::gs) scope pos') 0 it acc env) it env)
  (cp:Cap X.N scope N' is) (hL:∀σ,Free L (capt is σ)) (hi:PID K X target iter wi) (hgd:CG K L L' g gd)
  (hg:∀cl C fp s H,PG (aQa X N' scope cl C fp s H oc) target g) (ht:∀cl C fp s H,PTs (aQa X N' scope cl C fp s H oc) ifs (upT K tt)) (hbd:aZt (bJv X.prog X.w K) tupS L' tv tb) (hb:∀cl C fp s H D,PB (aQa X N' scope cl C fp s H oc) (m (.ref D) (gM scope cl C X.env)) (tv D))
  (hcf:∀n acc,e9 n scope.names acc=ocl oc n acc:=by intro _ _;rfl) (hpc:∀h,f6 h scope.names=ohp oc h:=by intro _;rfl)
  (hkind:scope.kind=.function:=by rfl) (hcell:∀y∈scope.names,y.2=.cell->oc=some y.1:=by decide +kernel)
  (hu:∀y∈scope.names,scope.names.lookup y.1=some y.2:=by decide +kernel) (hoc:∀x,oc=some x->scope.names.lookup x=some .cell:=by intro x h;cases h <;> rfl)
  (hVb:okV scope.names X.env.scope.names=true:=by first|rfl|kernel_rfl)
  (hs:∀x,cq iter X.env x=pure x:=by intro _;rfl) (hK:X.K=K:=by rfl)
  (h1:aC [j6 elt (⟨target,iter,ifs,0⟩::gs) scope pos'] X.env=(false,eval (j6 elt (⟨target,iter,ifs,0⟩::gs) scope pos') X.env)::aC [] X.env:=by rfl) (h3:(cO pos (aC [] X.env)).any (·.1)=false:=by rfl) :
  PD K X (.Call (.Name "sorted" p) [.SetComp elt (⟨target,iter,ifs,0⟩::gs) scope pos'] [] pos) (srtC tupS HT.lexS b is wi gd tt tb) :=
 .of (aJl (aXf (lt64 hr) hK rfl hcalm) hgl hm aXn (aJt (bXv (kn:=bJv X.prog X.w K) rfl hcalm hN hturn cp hi.o hg ht hb hcf hpc hkind hcell hu hoc hVb hs) bX9 h1) (by decide) (by decide) h1 h3) fun σ H Q Y=>Y.el λF S Γ QD r gm q c =>
  show bQd (bJv X.prog X.w K) is (upI K wi) g (upT K tt) tv σ H (λv H1=>cQy X.w K [v] H1 Q) from cZ2 hL hgd hbd r gm q λp' ks H' S' Z J st U=>by
   obtain⟨ks',hk,O⟩:=U;have j:ks=ks':=aJ7 cZ3 hk;subst j;obtain⟨es,ep,t,ps,s1,s2,s3,s4,s5,G⟩:=st;obtain⟨q2,q3⟩:=O (ps.map (·.2)) s5 G;have few:t.plain=true->es.size<=1:=λz=>by
    have hl:es.size=ps.length:=by have:=ca s4;simpa using this
    have h0:=s3.2.2 z;rw[hl];cases ps with
    |nil=>exact Nat.zero_le _
    |cons a ps =>
     cases ps with
     |nil=>exact Nat.le_refl _
     |cons b ps =>
      simp only[aU] at s5 h0;rw[h0 a.2 (by simp),h0 b.2 (by simp)] at s5
      exact absurd s5 (by simp)
   refine⟨_,ps.map (·.2),rfl,⟨p',es,ep,t,ps,rfl,s1,s3.1.fits,s2,few,s4,rfl⟩,s5,q2,λl ys out B pm pw pp=>?_⟩;exact Cn.new (Cn.shift c Z) J B (bZq J pp) ((O out (pm.nodup_iff.mpr s5) λt=>(pm.mem_iff).trans (G t)).2 pw)
end
end
end L2
set_option maxHeartbeats 4000000
namespace HT
open PySem PyProof.Rows
end HT
namespace L2
open PySem PySem.Spec PyProof.Rows
def lexN(lt:D->D->Bool):List D->List D->Bool
 |[],[]=>false
 |[],_::_=>true
 |_::_,[]=>false
 |x::xs,y::ys=>if x=y then lexN lt xs ys else lt x y
def ltN:Nat->D->D->Bool
 |_,.int i,.int j=>decide (i<j)
 |_,.str x,.str y=>HT.ltS x y
 |n+1,.tup xs,.tup ys=>lexN (ltN n) xs ys
 |n+1,.lst xs,.lst ys=>lexN (ltN n) xs ys
 |_,_,_=>false
def okLs(ok:D->D->Bool)(n:Nat):List D->List D->Bool
 |x::xs,y::ys=>okE n x y&&(if x=y then okLs ok n xs ys else ok x y)
 |_,_=>true
def okL:Nat->D->D->Bool
 |_,.int _,.int _=>true
 |_,.str _,.str _=>true
 |n+1,.tup xs,.tup ys=>okLs (okL n) n xs ys
 |n+1,.lst xs,.lst ys=>okLs (okL n) n xs ys
 |_,_,_=>false
end L2
set_option maxHeartbeats 1000000
namespace L2
open PySem PySem.Spec PyProof.Rows
def Kp(h h':bu):Prop:=∀b o,h.get? b=some o->h'.get? b=some o
end L2
set_option maxHeartbeats 4000000
namespace L2
open PySem PySem.Spec PyProof.Rows
end L2
set_option maxHeartbeats 1000000
namespace L2
open PySem PySem.Spec PyProof.Rows
section
variable{X:Cx}{K:Fg}{pos:Pos}{k:Nat}
theorem eX0(M:Am)(H:Hp)(k:List Str)(v:V)(h:RepV K M H (tupS k) v):dT K dS H v k:=by
 unfold tupS RepV at h;obtain⟨a,xs,e,t,l⟩:=h;exact⟨a,xs,e,t.sq,aJ5 l⟩
theorem fZr{P:au}{w:aN}{L:List Nat}{te:ED}:aZt (cZy P w K) D.str L (λD'=>cQz (cZy P w K) D' (upE K te)) (eZw D.str te):=cZ0 eZy
theorem dJe{P:au}{w:aN}{L:List Nat}{te:ED}:aZt (bJv P w K) tupS L (λD'=>cQz (bJv P w K) D' (upE K te)) (eZw tupS te):=cZ0 eX0
end
end L2
namespace L2
open PySem PyProof.Rows
section
variable{K:ay}{k:Nat}
theorem e_fn{P:au}{w:aN}{mg:Str->Option ae}{base:bu}{x:Str}{st:Stmt}{N ps:List Str}{sp:SpD}{f:Addr}{fd:d8}(Fn:Fun K x x st f fd)(S:FnScope N ps (aQ5 st))
  (len:∀ds S Q,sp ds S Q->ds.length=ps.length)
  (h:∀ (cdv:ae) (A:bj) (outer:List Env) (s:aj) (H:Hp) (E:XK),Room k (A.deeper (jp x (aQ5 st) s.heap.objs.size f cdv)) ->
   ∃t,PSsD K (cxOf CX0 P w K mg base N x (aQ5 st) f cdv A outer s H E).nox (aZj st) t/\∀ds S Q,sp ds S Q->t (dZr Q) (bZ4 N ds) S):FnOk P w K mg base CX0 (k+1) f fd ps (spU K sp):=by
 refine Fn.ok S (λvs H Q E B=>by obtain⟨F,S,ds,QD,r,l,j,c⟩:=B;rw[l.length];exact len ds S QD j) (λcdv A outer s H vs Q Z L B=>?_)
 obtain⟨F,S,ds,QD,r,l,j,c⟩:=B;obtain⟨t,h1,h2⟩:=h cdv A outer s H Z L;have fin:∀v d H' S',Ext S H S' H'->Rp K F S' H'->RepV K (mt S' F) H' d v->rtD QD d S'->Q v H':=λv d H' S' D z v1 J=>by
  obtain⟨U,Y,G,O,q⟩:=J;exact c v U H' Y (D.trans (Ext.less G)) (z.less G) ((dJ7 z G O).1 v v1) q
 exact⟨_,h1.o,F,S,bZ4 N ds,dZr QD,r,cQt l,h2 ds S QD j,fun Γ' S' σ' H' D z g1 q=>fin .non .non H' S' D z (by unfold RepV;rfl) q,fin,λ_ _ _ _ _ _ _ q=>q.elim,λ_ _ _ _ _ _ _ q=>q.elim⟩
end
theorem us1{p:List ae->Prop}(h:∀a,p [a])(us:List ae)(ee:us.length=1):p us:=by
 cases us with
 |nil=>cases ee
 |cons a us =>
  cases us with
  |nil=>exact h a
  |cons z us=>exact absurd (Nat.succ.inj ee) (Nat.succ_ne_zero _)
theorem us2{p:List ae->Prop}(h:∀a b,p [a,b])(us:List ae)(ee:us.length=2):p us:=by
 cases us with
 |nil=>cases ee
 |cons a us =>
  cases us with
  |nil=>cases ee
  |cons b us =>
   cases us with
   |nil=>exact h a b
   |cons z us=>exact absurd (Nat.succ.inj (Nat.succ.inj ee)) (Nat.succ_ne_zero _)
theorem us3{p:List ae->Prop}(h:∀a b c,p [a,b,c])(us:List ae)(ee:us.length=3):p us:=by
 cases us with
 |nil=>cases ee
 |cons a us =>
  cases us with
  |nil=>cases ee
  |cons b us =>
   cases us with
   |nil=>cases ee
   |cons c us =>
    cases us with
    |nil=>exact h a b c
    |cons z us=>exact absurd (Nat.succ.inj (Nat.succ.inj (Nat.succ.inj ee))) (Nat.succ_ne_zero _)
theorem fsc{N ps:List Str}{sc:Scope}(a:sc.kind=.function:=by rfl)(b:sc.isCoroutine=false:=by rfl)(c:sc.isGenerator=false:=by rfl)(d:N.Nodup:=by decide +kernel)(e:N.take ps.length=ps:=by rfl)(f:∀x∈ps,sc.names.lookup x=some .local\/sc.names.lookup x=some .cell:=by decide +kernel)(g:∀y∈sc.names,y.2≠.free:=by decide +kernel):FnScope N ps sc:=⟨a,b,c,d,e,f,g⟩
end L2
namespace Att
open PySem PySem.Spec PySem.Calls PyProof.Rows PySem.W
theorem attach_callW{l:OpenLaw}{n:Nat}{q:au}{loose:List Str}{XP:(Str->Option ae)->bu->Prop}{YP:aN->bu->Prop}{d:DefRec}
  (hn:l.most=some n) (hdf:d.params.defaults=[])
  (call:∀ (w:aN) (s₀ s₁:aj) (mg mb:Str->Option ae) (fa:Addr) (o:Obj) (pm cd doc:ae) (a:Addr) (vs:List ae) (ns:List Int),
   Ground q loose [] XP w s₀ mg mb s₁.heap->YP w s₁.heap ->
   s₁.heap.get? fa=some o->o.data=.func (docDef d.name d.params d.body d.scope pm cd doc)->s₁.heap.CodeRec cd d.name->mg d.name=some (.ref fa) ->
   s₁.heap.get? a=some {cls:=.type "list",data:=.seq vs.toArray}->iC vs ns->ns.length<=n->s₁.gens=#[]->(∀x∈ns,x.natAbs<2^1048576) ->
   fB (aF l.prog w) callerA (.call (.ref fa) ⟨[.ref a],[]⟩) (λr s'=>r=.ok (.ret (.bool true))/\OldK s₁.heap s'.heap/\s'.os=s₁.os/\ja s'.gens) s₁) :
  WalkO q loose XP YP l.row.toRowW d [] (λf vs=>PySem.call f vs):=by
 intro w s₀ s₁ mg mb G Y fa o pm cd doc dV kV ho hd L U J hg args vals as j B hrd D hlo;obtain rfl:dV=.none:=Dflts.none U hdf;obtain rfl:kV=.none:=Dflts.noKw U;obtain⟨a,vs,ns,rfl,rfl,z,hints,hlen⟩:=cXi hn j D;have hw:∀x∈ns,x.natAbs<2^1048576:=λx Z=>by
  have h1:=layableW_item (layableW_arg B _ (List.mem_singleton_self _)) _ (List.mem_map_of_mem (f:=WData.int) Z);have h2:=(layableW_iff.mp h1).2.2;have O:x≠0->x.natAbs.log2+1<=2^20:=λh0=>by
   have:(WData.int x).weight=if x==0 then 0 else x.natAbs.log2+1:=by first|rfl|(unfold WData.weight;rfl)
   rw[this,if_neg (by simpa using h0)] at h2
   exact h2
  by_cases h0:x=0
  ·rw[h0];exact Nat.two_pow_pos _
  ·exact(Nat.log2_lt (by omega)).mp (O h0)
 refine enter_call (iB (call w s₀ s₁ mg mb fa o pm cd doc a vs ns G Y ho (fd_plain hd) L J z hints hlen hg hw) λr s' hq=>?_);obtain⟨rfl,h2,O,h4⟩:=hq;exact⟨.inl ⟨.bool true,.bool true,[],rfl,λ_=>rfl,.bool true,cXj l _,λ_=>⟨gT,λ_ hm=>(nomatch hm)⟩⟩,h2,O,h4⟩
end Att
namespace L2
open PySem PySem.Spec PyProof.Rows
def cZ4(n:Nat):SpD:=λds S Q=>∃ns:List Int,ds=[.lst (ns.map D.int)]/\ns.length<=n/\(∀x∈ns,x.natAbs<2^1048576)/\(∀a,S a=none)/\∀S',Q (.bl true) S'
theorem eX1{K:Fg}{n:Nat}{H:Hp}{a:Addr}{ns:List Int}(hl:ns.length<=n)(hw:∀x∈ns,x.natAbs<2^1048576)(hS:SqL K H a (ns.map V.int)):spU K (cZ4 n) [.ref a] H (λv _=>v=.bl true) λ_ _ _=>False:=by
 refine⟨λ_=>False,λ_=>none,[.lst (ns.map D.int)],λd _=>d=.bl true,⟨λa o e=>(by cases e),λ_ (h:False)=>h.elim⟩,RepL.cons ?_ RepL.nil,⟨ns,rfl,hl,hw,λ_=>rfl,λ_=>rfl⟩,λv d H' S' _ _ h e=>by subst e;exact rbl h⟩
 unfold RepV;refine⟨a,_,rfl,?_,fZ6⟩;rcases hS with r|z
 ·exact .inl ⟨λz=>z.elim (λw=>w rfl) id,r⟩
 ·exact .inr (.inr z)
theorem walkW{l:PySem.W.OpenLaw}{q:au}{loose:List Str}{XP:(Str->Option ae)->bu->Prop}{YP:aN->bu->Prop}{d:DefRec}{K:Params->ay}(hn:l.most=some 63)(hdf:d.params.defaults=[])
  (hY:∀(w:aN) (h:bu),YP w h->(K w.params).In h)
  (F:∀ (w:aN) (mg:Str->Option ae) (fa:Addr) (h:bu),(K w.params).In h->h.Ns bC mg->mg d.name=some (.ref fa) ->
   ∃fd:d8,(∀(s:aj) (u:ae),BindsTo s fd ⟨[u],[]⟩ [("script",u)])/\∀base:bu,(K w.params).In base->base.Ns bC mg->FnOk l.prog w (K w.params) mg base CX0 50 fa fd ["script"] (spU (K w.params) (cZ4 63))) :
  PySem.W.WalkO q loose XP YP l.row.toRowW d [] (λf vs=>PySem.call f vs):=by
 refine Att.attach_callW hn hdf λw s₀ D mg mb fa o pm cd doc a vs ns G Y ho hd L B j hints hlen J hw=>?_;have KX:=hY w _ Y;obtain⟨fd,O,Z⟩:=F w mg fa _ KX G.T.g B;exact dZ1 KX G.T.g G.T.b G.T.builtins G.T.nolimit J j hints (Nat.le_trans hlen (by decide)) ⟨rfl,by decide,by decide⟩ Z O (λH hO U=>eX1 hlen hw U) λ_ _ _ z=>z
end L2
namespace Toy
open PySem L2
def top(i:Nat):Stmt:=PySem.Challenge.pw_corepetals_k72_levels_planted.main.body.getD i (.Pass ⟨0,0,0,0⟩)
end Toy
set_option maxHeartbeats 4000000
namespace L2
open PySem PySem.Spec PyProof.Rows
theorem bXw{α:Type}(l:List α)(i:Nat):∀m,(aI m).filterMap (λk=>l[i+k]?)=(l.drop i).take m
 |0=>rfl
 |m+1=>by
  rw[dQ,g6,bXw l i m,cE]
  congr 1
  rw[iL];simp only[cJ,List.filterMap_nil];cases l[i+m]? <;> rfl
theorem fZs(lo hi:Option Int)(n:Nat):cg lo hi 1 n=(aI (HT.sIx n n hi-HT.sIx n 0 lo)).map λk=>HT.sIx n 0 lo+k:=by
 have e:cg lo hi 1 n=sliceRange (fx lo hi none n).1 (fx lo hi none n).2.1 1:=rfl;obtain⟨h1,h2,_⟩:=aJa lo hi n;rw[e,h1,h2];unfold sliceRange;have j:(if (1:Int)>0 then (if ((HT.sIx n 0 lo:Nat):Int)<((HT.sIx n n hi:Nat):Int) then (((HT.sIx n n hi:Nat):Int)-((HT.sIx n 0 lo:Nat):Int)+1-1)/1 else 0) else (if ((HT.sIx n 0 lo:Nat):Int)>((HT.sIx n n hi:Nat):Int) then (((HT.sIx n 0 lo:Nat):Int)-((HT.sIx n n hi:Nat):Int)-1-1)/(-1) else 0)).toNat=HT.sIx n n hi-HT.sIx n 0 lo:=by
  rw[if_pos (by decide),Int.ediv_one]
  split <;> lia
 show(aI _).map _=_;rw[j];apply eG;intro k _;lia
theorem cutS_eq(z:Str)(lo hi:Option Int):cutS z lo hi=⟨((z.cps.toList.drop (HT.sIx z.length 0 lo)).take (HT.sIx z.length z.length hi-HT.sIx z.length 0 lo)).toArray⟩:=by
 unfold cutS;rw[fZs,ah,bF];have B:HT.sIx z.length z.length hi<=z.length:=HT.sIx_le _ _ (Nat.le_refl _) hi;have q:z.cps.toList.length=z.length:=bn
 by_cases h:(HT.sIx z.length z.length hi-HT.sIx z.length 0 lo==z.length)=true
 ·rw[if_pos h];have h':=hJ h
  by_cases h0:z.length=0
  ·have:z.cps=#[]:=Array.eq_empty_of_size_eq_zero h0
   cases z;simp only at this;subst this;simp
  ·have j:HT.sIx z.length 0 lo=0:=by lia
   rw[h',j,gO,bN (by lia)]
 ·rw[if_neg h,List.filterMap_map]
  congr 1
  have:=bXw z.cps.toList (HT.sIx z.length 0 lo) (HT.sIx z.length z.length hi-HT.sIx z.length 0 lo)
  rw[<- this]
  congr 2
  funext k;show z.cps[HT.sIx z.length 0 lo+k]?=_;rw[aW]
end L2
set_option maxHeartbeats 1000000
namespace L2
open PySem
def lettersZ:Str:=bo "abcdefghijklmnopqrstuvwxyz"
theorem bQe{i:Nat}(h:i<26):atI lettersZ.cps.toList (i:Int)=some (97+i):=by
 have:∀j:Fin 26,lettersZ.cps.toList[j.val]?=some (97+j.val):=by decide +kernel
 exact bJ8 (this ⟨i,h⟩)
end L2
set_option maxHeartbeats 4000000
namespace L2
open PySem
theorem z9999{n:Nat}(h:n<=9999):n<=sizeLine:=by rw[bK];lia
theorem bQf{α:Type}:∀(l:List α) (j:Nat) (h:j<l.length),(l[j]::l.eraseIdx j).Perm l
 |a::l,0,_=>.refl _
 |a::l,j+1,h=>by
  have q:=bQf l j (by simpa using h)
  show(l[j]'(by simpa using h)::a::l.eraseIdx j).Perm (a::l)
  exact(iQ _ _ _).trans (q.cons a)
theorem dQ3{α β:Type}{f:α->β}(g:β->α)(hg:∀x,g (f x)=x){vs us:List β}{xs:List α}(h:(vs++us).Perm (xs.map f)):∃as bs:List α,vs=as.map f/\us=bs.map f/\(as++bs).Perm xs:=by
 have mem:∀y∈vs++us,f (g y)=y:=λy j=>by
  obtain⟨x,_,rfl⟩:=aQ.mp (h.mem_iff.mp j);rw[hg]
 have lift:∀l:List β,(∀y∈l,f (g y)=y)->l=(l.map g).map f:=λl hl=>by
  rw[bI];apply jL (by simp)
  intro i h1 h2;rw[jM];exact(hl _ (d0 h1)).symm
 refine⟨vs.map g,us.map g,lift vs λy j=>mem y (be _ j),lift us λy j=>mem y (a7 _ j),?_⟩;have p:=h.map g;rw[aZ,bI] at p;have e:xs.map (g∘f)=xs:=by
  apply jL (by simp)
  intro i h1 h2;rw[jM];exact hg _
 rwa [e] at p
def dStr':D->Str
 |.str s=>s
 |_=>⟨#[]⟩
end L2
namespace Toy
open PySem L2
end Toy
namespace Toy
variable{α:Type}
def ch:List α->Nat->List (List α)
 |_,0=>[[]]
 |[],_+1=>[]
 |x::xs,n+1=>(ch xs n).map (x::·)++ch xs (n+1)
theorem ch_zero(xs:List α):ch xs 0=[[]]:=by cases xs <;> rfl
theorem dJf(n:Nat):ch ([]:List α) (n+1)=[]:=rfl
theorem ch_cons(x:α)(xs:List α)(n:Nat):ch (x::xs) (n+1)=(ch xs n).map (x::·)++ch xs (n+1):=rfl
theorem dQ4:∀(xs:List α) (n:Nat),xs.length<n->ch xs n=[]
 |[],0,h=>by simp at h
 |[],n+1,_=>rfl
 |x::xs,0,h=>by simp at h
 |x::xs,n+1,h=>by
  simp only[aK] at h;rw[ch_cons,dQ4 xs n (by lia),dQ4 xs (n+1) (by lia)]
  rfl
theorem cZ5:∀(xs:List α) (n:Nat),(ch xs n).length<=2^xs.length
 |[],0=>by simp[ch]
 |[],n+1=>by simp[ch]
 |x::xs,0=>by
  rw[ch_zero];exact Nat.one_le_two_pow
 |x::xs,n+1=>by
  rw[ch_cons,ap,ah,aK,Nat.pow_succ]
  have:=cZ5 xs n
  have:=cZ5 xs (n+1)
  lia
theorem ch_mem:∀{xs:List α}{n:Nat}{s:List α},s∈ch xs n->s.length=n/\s.Sublist xs
 |[],0,s,h=>by
  have:s=[]:=by simpa [ch] using h
  subst this;exact⟨rfl,.slnil⟩
 |[],n+1,s,h=>by simp[ch] at h
 |x::xs,0,s,h=>by
  have:s=[]:=by simpa [ch] using h
  subst this;exact⟨rfl,List.nil_sublist _⟩
 |x::xs,n+1,s,h=>by
  rw[ch_cons,aS,aQ] at h;rcases h with⟨r,j,rfl⟩|h
  ·obtain⟨a,b⟩:=ch_mem j;exact⟨by simp[a],b.cons_cons x⟩
  ·obtain⟨a,b⟩:=ch_mem h;exact⟨a,b.cons x⟩
theorem eX2(xs:List α)(i n:Nat)(h:i<xs.length):ch (xs.drop i) (n+1)=(ch (xs.drop (i+1)) n).map (xs[i]::·)++ch (xs.drop (i+1)) (n+1):=by
 rw[cQ h]
 rfl
theorem mem_ch:∀{xs:List α}{s:List α},s.Sublist xs->s∈ch xs s.length
 |[],s,h=>by
  have:s=[]:=List.sublist_nil.mp h
  subst this;simp[ch]
 |x::xs,[],h=>by simp[ch]
 |x::xs,y::s,h=>by
  rw[aK,ch_cons,aS,aQ];cases h with
  |cons _ h=>right;exact mem_ch (s:=y::s) h
  |cons_cons _ h=>left;exact⟨s,mem_ch h,rfl⟩
end Toy
namespace Toy
variable{α:Type}
theorem dJg:∀xs:List α,ch xs 1=xs.map λx=>[x]
 |[]=>rfl
 |x::xs=>by rw[ch_cons,ch_zero,dJg xs];rfl
end Toy
namespace Toy
variable{β:Type}[DecidableEq β]
def Sun(s:List (List β)):Prop:=s.Pairwise λa b=>∀n,n∈a->n∈b->∀o∈s,n∈o
def naG(s:List (List β)):List β:=(s.headD []).filter λn=>s.all λo=>decide (n∈o)
def lfG(s:List (List β)):List β:=s.flatMap λo=>o.filter λd=>!decide (d∈naG s)
def coG(s:List (List β)):Option (List β):=if s.length<2\/¬ s.Nodup then none else if (lfG s).Nodup then some (naG s) else none
theorem aJe{s:List (List β)}(hs:s≠[]){n:β}:n∈naG s↔∀o∈s,n∈o:=by
 unfold naG;rw[av,b7];simp only[decide_eq_true_eq];refine⟨λh=>h.2,λh=>⟨?_,h⟩⟩;cases s with
 |nil=>exact absurd rfl hs
 |cons a s=>exact h a ak
theorem dX1{s:List (List β)}(hs:s≠[])(hn:∀o∈s,o.Nodup):(lfG s).Nodup↔Sun s:=by
 unfold lfG Sun gy;rw[List.pairwise_flatMap];refine⟨λh=>h.2.imp_of_mem ?_,λh=>⟨λo O=>(hn o O).filter _,h.imp_of_mem ?_⟩⟩
 ·intro a b Z Y j n na nb;refine aR λU=>?_;have q:n∉naG s:=λz=>U ((aJe hs).mp z);exact j n (av.mpr ⟨na,by simp[q]⟩) n (av.mpr ⟨nb,by simp[q]⟩) rfl
 ·intro a b Z Y j x L y J e;subst e;obtain⟨G,D⟩:=av.mp L;obtain⟨B,_⟩:=av.mp J
  have:x∉naG s:=by simpa using D
  exact this ((aJe hs).mpr (j x G B))
theorem sorted_eq{lt:β->β->Prop}(irr:∀a,¬ lt a a)(asy:∀a b,lt a b->¬ lt b a):∀{l m:List β},l.Pairwise lt->m.Pairwise lt->(∀n,n∈l↔n∈m)->l=m
 |[],[],_,_,_=>rfl
 |[],b::m,_,_,h=>by have:=(h b).mpr ak;simp at this
 |a::l,[],_,_,h=>by have:=(h a).mp ak;simp at this
 |a::l,b::m,hl,hm,h=>by
  obtain⟨la,B⟩:=aX.mp hl;obtain⟨D,q⟩:=aX.mp hm;have e:a=b:=by
   rcases aD.mp ((h a).mp ak) with z|z
   ·exact z
   ·rcases aD.mp ((h b).mpr ak) with y|y
    ·exact y.symm
    ·exact absurd (D a z) (asy _ _ (la b y))
  subst e
  congr 1
  refine sorted_eq irr asy B q λn=>⟨λj=>?_,λj=>?_⟩
  ·rcases aD.mp ((h n).mp (ao _ j)) with z|z
   ·subst z;exact absurd (la n j) (irr n)
   ·exact z
  ·rcases aD.mp ((h n).mpr (ao _ j)) with z|z
   ·subst z;exact absurd (D n j) (irr n)
   ·exact z
def meG(a b:List β):List β:=a.filter λn=>decide (n∈b)
theorem mem_me{a b:List β}{n:β}:n∈meG a b↔n∈a/\n∈b:=by unfold meG;rw[av];simp
def laG(s:List (List β)):Option (List β):=match s with
 |a::b::_=>if s.Pairwise λother one=>meG one other=meG a b then some (meG a b) else none
 |_=>none
theorem dX2{lt:β->β->Prop}(irr:∀a,¬ lt a a)(asy:∀a b,lt a b->¬ lt b a){s:List (List β)}(h2:2<=s.length)(nd:s.Nodup)(hs:∀o∈s,o.Pairwise lt):laG s=coG s:=by
 classical
 have j:s≠[]:=by rintro rfl;simp at h2
 have hnd:∀o∈s,o.Nodup:=λo Z=>(hs o Z).imp (λ{x y} (h:lt x y) (e:x=y)=>irr y (e▸h));obtain⟨a,b,r,rfl⟩:∃a b r,s=a::b::r:=by
  match s,h2 with
  |a::b::r,_=>exact⟨a,b,r,rfl⟩
 have B:∀x∈a::b::r,∀y,(meG x y).Pairwise lt:=λx O y=>(hs x O).filter _;have hco:coG (a::b::r)=if Sun (a::b::r) then some (naG (a::b::r)) else none:=by
  unfold coG;have hno:¬ ((a::b::r).length<2\/¬ (a::b::r).Nodup):=λz=>z.elim (λz=>by simp only[aK] at z;lia) λz=>z nd
  rw[if_neg hno]
  have:=dX1 j hnd
  by_cases h:Sun (a::b::r)
  ·rw[if_pos h,if_pos (this.mpr h)]
  ·rw[if_neg h,if_neg λz=>h (this.mp z)]
 rw[hco];show(if (a::b::r).Pairwise (λother one=>meG one other=meG a b) then some (meG a b) else none)=_
 have L:Sun (a::b::r)->meG a b=naG (a::b::r):=λh=>by
  refine sorted_eq irr asy (B a ak b) ((hs a ak).filter _) λn=>?_;rw[mem_me,aJe j];refine⟨λ⟨na,nb⟩=>(aX.mp h).1 b ak n na nb,λz=>⟨z a ak,z b (ao _ ak)⟩⟩
 have iff:(a::b::r).Pairwise (λother one=>meG one other=meG a b)↔Sun (a::b::r):=by
  constructor
  ·intro h;refine h.imp_of_mem λ{x y} O Y q n nx U o Z=>?_;have hn:n∈meG a b:=q▸mem_me.mpr ⟨U,nx⟩;have all:∀u∈a::b::r,∀v∈a::b::r,u≠v->n∈u/\n∈v:=by
    have sym:∀{l:List (List β)},l.Pairwise (λother one=>meG one other=meG a b)->∀u∈l,∀v∈l,u≠v->n∈u/\n∈v:=by
     intro l hl
     induction hl with
     |nil=>intro u hu;cases hu
     |@cons p l hp _ ih =>
      intro u hu v hv j;rcases aD.mp hu with eu|G <;> rcases aD.mp hv with ev|D
      ·exact absurd (eu.trans ev.symm) j
      ·have:=mem_me.mp ((hp v D).symm▸hn);rw[eu];exact⟨this.2,this.1⟩
      ·have:=mem_me.mp ((hp u G).symm▸hn);rw[ev];exact this
      ·exact ih u G v D j
    exact sym h
   have nab:a≠b:=λe=>(bE.mp nd).1 (e▸ak)
   by_cases J:o=a
   ·rw[J];exact(mem_me.mp hn).1
   ·exact(all o Z a ak J).1
  ·intro h;refine h.imp_of_mem λ{x y} O Y q=>?_;refine sorted_eq irr asy (B y Y x) (B a ak b) λn=>?_;rw[mem_me,L h,aJe j];exact⟨λ⟨U,nx⟩=>q n nx U,λz=>⟨z y Y,z x O⟩⟩
 by_cases h:Sun (a::b::r)
 ·rw[if_pos h,if_pos (iff.mpr h),L h]
 ·rw[if_neg h,if_neg λz=>h (iff.mp z)]
end Toy
namespace Toy
variable{α β:Type}
theorem ch_map(f:α->β):∀(l:List α) (k:Nat),ch (l.map f) k=(ch l k).map λs=>s.map f
 |[],0=>rfl
 |[],k+1=>rfl
 |x::l,0=>by rw[ch_zero,ch_zero];rfl
 |x::l,k+1=>by
  rw[aU,ch_cons,ch_cons,ch_map f l k,ch_map f l (k+1),aZ,bI,bI]
  rfl
end Toy
set_option maxHeartbeats 1000000
namespace L2
open PySem
abbrev Srt(t:List Str):Prop:=t.Pairwise λa b=>HT.ltS a b=true
abbrev SrtT(ts:List (List Str)):Prop:=ts.Pairwise λa b=>HT.lexS a b=true
theorem Srt.ext{l m:List Str}(hl:Srt l)(hm:Srt m)(h:∀n,n∈l↔n∈m):l=m :=
 Toy.sorted_eq (lt:=λa b=>HT.ltS a b=true) (λa=>by rw[HT.ltS_ir];simp) (λa b h=>by rw[HT.ltS_as h];simp) hl hm h
theorem SrtT.ext{l m:List (List Str)}(hl:SrtT l)(hm:SrtT m)(h:∀n,n∈l↔n∈m):l=m :=
 Toy.sorted_eq (lt:=λa b=>HT.lexS a b=true) (λa=>by rw[bZl];simp) (λa b h=>by rw[HT.lexS_as h];simp) hl hm h
theorem Srt.nodup{t:List Str}(h:Srt t):t.Nodup:=h.imp λ{a b} h e=>by subst e;rw[HT.ltS_ir] at h;cases h
theorem SrtT.nodup{t:List (List Str)}(h:SrtT t):t.Nodup:=h.imp λ{a b} h e=>by subst e;rw[bZl] at h;cases h
theorem fZt{t:List Str}(nd:t.Nodup)(h:t.Pairwise λx y=>leS x y=true):Srt t:=by
 induction t with
 |nil=>exact .nil
 |cons a t q =>
  rw[aX] at h;rw[bE] at nd;refine aX.mpr ⟨λb j=>?_,q nd.2 h.2⟩
  have:=h.1 b j
  unfold leS at this;rw[cN] at this;exact HT.ltS_tot this λe=>nd.1 (by rw[<- e];exact j)
theorem eX3{t:List (List Str)}(nd:t.Nodup)(h:t.Pairwise λx y=>leT x y=true):SrtT t:=by
 induction t with
 |nil=>exact .nil
 |cons a t q =>
  rw[aX] at h;rw[bE] at nd;refine aX.mpr ⟨λb j=>?_,q nd.2 h.2⟩
  have:=h.1 b j
  unfold leT at this;rw[cN] at this;exact HT.lexS_tot this λe=>nd.1 (by rw[<- e];exact j)
theorem aJ8{l:List Str}(nd:l.Nodup):Srt (srS l):=fZt ((aZ4 l).nodup_iff.mpr nd) (dJ9 l)
theorem bJw{l:List (List Str)}(nd:l.Nodup):SrtT (srT l):=eX3 ((aZ5 l).nodup_iff.mpr nd) (dJa l)
theorem mem_srS{l:List Str}{x:Str}:x∈srS l↔x∈l:=(aZ4 l).mem_iff
theorem mem_srT{l:List (List Str)}{x:List Str}:x∈srT l↔x∈l:=(aZ5 l).mem_iff
def dd{α:Type}[DecidableEq α]:List α->List α
 |[]=>[]
 |x::xs=>if x∈xs then dd xs else x::dd xs
theorem mem_dd{α:Type}[DecidableEq α]{x:α}:∀{l:List α},x∈dd l↔x∈l
 |[]=>Iff.rfl
 |y::l=>by
  unfold dd
  split
  ·next h =>
   rw[mem_dd,aD];exact⟨.inr,λz=>z.elim (λe=>by rw[e];exact h) id⟩
  ·rw[aD,aD,mem_dd]
theorem bZu{α:Type}[DecidableEq α]:∀l:List α,(dd l).Nodup
 |[]=>eT
 |y::l=>by
  unfold dd
  split
  ·exact bZu l
  ·next h=>exact bE.mpr ⟨λz=>h (mem_dd.mp z),bZu l⟩
def nms(ts:List (List Str)):List Str:=srS (dd ts.flatten)
theorem dQ5(ts:List (List Str)):Srt (nms ts):=aJ8 (bZu _)
theorem mem_nms{ts:List (List Str)}{x:Str}:x∈nms ts↔∃t∈ts,x∈t:=by
 unfold nms;rw[mem_srS,mem_dd,f9]
theorem dJh{ts:List (List Str)}{out:List Str}(h:Srt out)(m:∀x,x∈out↔∃t∈ts,x∈t):out=nms ts:=h.ext (dQ5 ts) λn=>(m n).trans mem_nms.symm
def mts{α:Type}[DecidableEq α](one row:List α):Bool:=row.any λd=>decide (d∈one)
def has{α:Type}[DecidableEq α](one row:List α):Bool:=row.all λd=>decide (d∈one)
theorem mts_iff{α:Type}[DecidableEq α]{one row:List α}:mts one row=true↔∃x∈row,x∈one:=by unfold mts;simp
theorem has_iff{α:Type}[DecidableEq α]{one row:List α}:has one row=true↔∀x∈row,x∈one:=by unfold has;simp
def wor(ts:List (List Str))(row:List Str):List (List Str):=ts.filter λt=>!mts t row
def wo{α:Type}[DecidableEq α](one row:List α):List α:=one.filter λd=>!decide (d∈row)
theorem mem_wo{α:Type}[DecidableEq α]{one row:List α}{x:α}:x∈wo one row↔x∈one/\x∉row:=by unfold wo;rw[av];simp
def lnk(ts:List (List Str))(row:List Str):List (List Str):=srT ((ts.filter λt=>has t row).map λt=>wo t row)
end L2
set_option maxHeartbeats 4000000
namespace L2
open PySem
structure Enc(α:Type) where
 e:α->D
 inj:∀{x y},e x=e y->x=y
 pl:∀x,plain (e x)=true
 dep:Nat
 ok:∀n x y,dep<=n->okE n (e x) (e y)=true
 lt:α->α->Bool
 okl:∀n x y,dep<=n->okL n (e x) (e y)=true
 lte:∀n x y,dep<=n->ltN n (e x) (e y)=lt x y
def lexG{α:Type}[DecidableEq α](lt:α->α->Bool):List α->List α->Bool
 |[],[]=>false
 |[],_::_=>true
 |_::_,[]=>false
 |x::xs,y::ys=>if x=y then lexG lt xs ys else lt x y
def strE:Enc Str where
 e:=D.str
 inj:=λh=>by injection h
 pl:=λ_=>rfl
 dep:=0
 ok:=λn x y _=>by cases n <;> rfl
 lt:=HT.ltS
 okl:=λn x y _=>by cases n <;> rfl
 lte:=λn x y _=>by cases n <;> rfl
def tupE{α:Type}[DecidableEq α](E:Enc α):Enc (List α) where
 e:=λl=>.tup (l.map E.e)
 inj:=λ{x y} h=>by
  injection h with h
  exact aJ7 (λa b e=>E.inj e) h
 pl:=λl=>by
  show aZn (l.map E.e)=true
  induction l with
  |nil=>rfl
  |cons x l ih=>show(plain (E.e x)&&aZn (l.map E.e))=true;rw[E.pl,ih];rfl
 dep:=E.dep+1
 ok:=λn x y h=>by
  obtain⟨m,rfl⟩:∃m,n=m+1:=⟨n-1,by lia⟩
  show((x.map E.e).zip (y.map E.e)).all (λp=>okE m p.1 p.2)=true;rw[List.zip_map,jY,b7];exact λp _=>E.ok m p.1 p.2 (by lia)
 lt:=lexG E.lt
 okl:=λn x y h=>by
  obtain⟨m,rfl⟩:∃m,n=m+1:=⟨n-1,by lia⟩
  show okLs (okL m) m (x.map E.e) (y.map E.e)=true
  induction x generalizing y with
  |nil=>cases y <;> rfl
  |cons a x ih =>
   cases y with
   |nil=>rfl
   |cons b y =>
    show(okE m (E.e a) (E.e b)&&(if E.e a=E.e b then okLs (okL m) m (x.map E.e) (y.map E.e) else okL m (E.e a) (E.e b)))=true
    rw[E.ok m a b (by lia),fH]
    split
    ·exact ih y
    ·exact E.okl m a b (by lia)
 lte:=λn x y h=>by
  obtain⟨m,rfl⟩:∃m,n=m+1:=⟨n-1,by lia⟩
  show lexN (ltN m) (x.map E.e) (y.map E.e)=lexG E.lt x y
  induction x generalizing y with
  |nil=>cases y <;> rfl
  |cons a x ih =>
   cases y with
   |nil=>rfl
   |cons b y =>
    show(if E.e a=E.e b then lexN (ltN m) (x.map E.e) (y.map E.e) else ltN m (E.e a) (E.e b))=if a=b then lexG E.lt x y else E.lt a b
    by_cases hab:a=b
    ·subst hab;rw[if_pos rfl,if_pos rfl];exact ih y
    ·rw[if_neg λz=>hab (E.inj z),if_neg hab];exact E.lte m a b (by lia)
abbrev setE:Enc (List Str):=tupE strE
abbrev flE:Enc (List (List Str)):=tupE setE
section
variable{α:Type}[DecidableEq α]{E:Enc α}
theorem cZ6:∀l:List α,aZn (l.map E.e)=true
 |[]=>rfl
 |x::l=>by show(plain (E.e x)&&aZn (l.map E.e))=true;rw[E.pl,cZ6 l];rfl
theorem fJc{x:α}{l:List α}:E.e x∈l.map E.e↔x∈l:=by
 rw[aQ];exact⟨λ⟨y,h,e⟩=>by rw[<- E.inj e];exact h,λh=>⟨x,h,rfl⟩⟩
theorem in_e{neg:Bool}{x:α}{l:List α}[dm:Decidable (x∈l)]{d:D}{S:Sto}{Q:DK}(hE:E.dep<=8)(hd:sqIs S d (l.map E.e))(q:Q (.bl (if neg then !decide (x∈l) else decide (x∈l))) S):inD neg (E.e x) d S Q:=by
 refine⟨l.map E.e,hd,cZ6 l,by rw[jY,b7];exact λy _=>E.ok 8 y x hE,?_⟩
 rw[decide_eq_decide.mpr (fJc (E:=E) (x:=x) (l:=l))];exact q
theorem in_t{neg:Bool}{x:α}{l:List α}[dm:Decidable (x∈l)]{d:D}{S:Sto}{Q:Bool->Sto->Prop}(hE:E.dep<=8)(hd:sqIs S d (l.map E.e))(q:Q (if neg then !decide (x∈l) else decide (x∈l)) S):inD neg (E.e x) d S (λd S1=>∃b,d=.bl b/\Q b S1):=in_e hE hd ⟨_,rfl,q⟩
end
def fzIs(d:D)(xs:List D):Prop:=d=.tup xs\/d=.lst xs
theorem fzIs.sq{S:Sto}{d:D}{xs:List D}(h:fzIs d xs):sqIs S d xs:=by rcases h with rfl|rfl <;> rfl
end L2
namespace Toy
open PySem L2
def aXa:SpD:=λds S Q=>∃(α:Type) (_:DecidableEq α) (E:Enc α) (one row:List α) (d1 d2:D),ds=[d1,d2]/\E.dep<=4/\fzIs d1 (one.map E.e)/\fzIs d2 (row.map E.e)/\row.length<=9999/\Q (.bl (mts one row)) S
def aZp:SpD:=λds S Q=>∃(α:Type) (_:DecidableEq α) (E:Enc α) (one row:List α) (d1 d2:D),ds=[d1,d2]/\E.dep<=4/\fzIs d1 (one.map E.e)/\fzIs d2 (row.map E.e)/\row.length<=9999/\Q (.bl (has one row)) S
def aQi:SpD:=λds S Q=>∃(α:Type) (_:DecidableEq α) (E:Enc α) (one row:List α) (d1 d2:D),ds=[d1,d2]/\E.dep<=4/\fzIs d1 (one.map E.e)/\fzIs d2 (row.map E.e)/\one.length<=9999/\Q (.tup ((wo one row).map E.e)) S
def aJ9:SpD:=λds S Q=>∃one row:List Str,ds=[tupS one,tupS row]/\one.length<=9999/\Q (tupS (one.filter λd=>decide (d∈row))) S
def aZu:SpD:=λds S Q=>∃(ts:List (List Str)),ds=[.tup (ts.map tupS)]/\ts.length<=20/\(∀t∈ts,t.length<=12)/\(nms ts).length<64/\Q (tupS (nms ts)) S
def aQs:SpD:=λds S Q=>∃(ts:List (List Str)) (row:List Str),ds=[.tup (ts.map tupS),tupS row]/\ts.length<=9999/\row.length<=9999/\Q (.tup ((wor ts row).map tupS)) S
end Toy
namespace L2
open PySem
theorem Srt.filter{l:List Str}(h:Srt l)(p:Str->Bool):Srt (l.filter p):=cP p h
end L2
namespace Toy
open PySem L2
end Toy
namespace L2
open PySem
end L2
set_option maxHeartbeats 1000000
namespace L2
open PySem PySem.Spec PyProof.Rows
end L2
set_option maxHeartbeats 4000000
namespace Toy
open PySem L2
theorem eX4(z:Str)(u v:Option Int){n:Nat}(h:z.length=n):(cutS z u v).length<=n:=by
 rw[cutS_eq];show(List.toArray _).size<=n;rw[aq,aM,bm]
 have:z.cps.toList.length=z.length:=by show _=z.cps.size;simp
 lia
theorem dJi:∀cs:List Nat,((cs.map sg).map (·.length)).sum=cs.length
 |[]=>rfl
 |x::cs=>by rw[aU,aU,cT,dJi cs,fZh,aK];lia
end Toy
set_option maxHeartbeats 1000000
namespace L2
open PySem PySem.Spec PyProof.Rows
section
variable{X:Cx}{K:Fg}{pos:Pos}
theorem dX3{n k:Nat}(h:n<2^k)(hk:0<k):n.log2<k:=by
 by_cases h0:n=0
 ·subst h0;rw[Nat.log2_zero];exact hk
 ·exact(Nat.log2_lt h0).mpr h
end
section
variable{X:Cx}{K:Fg}{pos:Pos}
def fZu(i j:Int):Prop:=0<=j/\j<=1000/\i.natAbs<2^4000000
theorem eX5:OpR X (eD .LShift) (rI fZu λi j=>.int (i * 2 ^ j.toNat)):=opI λi j _ _ _ _ _ z q=>lshift_int z.1 (by
 have h1:(0:Int)<=j:=z.1;have h2:j<=1000:=z.2.1;have B:=dX3 z.2.2 (by decide)
 have D:kz i<=4000000:=by unfold kz;split <;> omega
 omega) q
theorem fZv{a b:Expr}{ta tb:ED}(ha:PD K X a ta)(hb:PD K X b tb):PD K X (.BinOp a .LShift b pos) (dOp (iiD fZu λi j=>.int (i*2^j.toNat)) ta tb):=e_op eX5 od_I ha hb
end
end L2
namespace L2
open PySem
def DkD(S:Sto)(a:Addr)(n:Nat):Prop:=∃g m t:Int,S a=some (.lst [.int g,.int m,.int t])/\0<=g/\0<=m/\m<2^31/\0<=t/\t<=n
theorem DkD.mono{S:Sto}{a:Addr}{n k:Nat}(h:DkD S a n)(hk:n<=k):DkD S a k:=by
 obtain⟨g,m,t,j,q,m0,m1,t0,t1⟩:=h;exact⟨g,m,t,j,q,m0,m1,t0,by omega⟩
theorem cZz{g c:Int}{k:Nat}(g0:0<=g)(hg:g.natAbs<2^(1048600+206*k))(hc:c.natAbs<2^1048576)(hk:k<=63):0<=g*2^(205:Int).toNat+c.natAbs/\(g*2^(205:Int).toNat+c.natAbs).natAbs<2^(1048600+206*(k+1)):=by
 have e:g*2^(205:Int).toNat+c.natAbs=((g.natAbs*2^205+c.natAbs:Nat):Int):=by
  rw[cS,fF,Int.natCast_pow,Int.natAbs_of_nonneg g0];rfl
 rw[e];refine⟨Int.natCast_nonneg _,?_⟩;rw[Int.natAbs_natCast];have h1:g.natAbs*2^205<2^(1048600+206*k)*2^205:=Nat.mul_lt_mul_of_pos_right hg (Nat.two_pow_pos _);rw[<- Nat.pow_add] at h1;have h2:2^1048576<=2^(1048600+206*k+205):=Nat.pow_le_pow_right (by decide) (by omega)
 have j:2^(1048600+206*(k+1))=2^(1048600+206*k+205)*2:=by rw[<- Nat.pow_succ];congr 1
 rw[j];generalize 2^(1048600+206*k+205)=M at *
 generalize 2^1048576=N at *
 generalize g.natAbs*2^205=G at *
 omega
def cZ7:SpD:=λds S Q=>∃ns:List Int,ds=[.lst (ns.map D.int)]/\ns.length<=63/\(∀x∈ns,x.natAbs<2^1048576)/\∀a S',S a=none->Off a S S'->DkD S' a 0->Q (.ref a) S'
def aXb:SpD:=λds S Q=>∃(a:Addr) (m:Int) (n:Nat),ds=[.ref a,.int m]/\DkD S a n/\n<=1000000/\1<=m/\m<1000000/\∀(r:Int) S',0<=r->r<m->Off a S S'->DkD S' a (n+1)->Q (.int r) S'
def bXx:SpD:=λds S Q=>∃(a:Addr) (many n:Nat),ds=[.ref a,.int many]/\DkD S a n/\n<=900000/\many<=12/\∀(ws:List Str) S',ws.Nodup->ws.length=many->(∀x∈ws,1<=x.length/\x.length<=8)->Off a S S'->DkD S' a (n+9+many)->Q (.lst (ws.map D.str)) S'
end L2
namespace Toy
open PySem L2
abbrev s_law_deck:Stmt:=top 21
theorem sc_law_deck:FnScope ["script", "great", "mixed", "cell"] ["script"] (aQ5 s_law_deck):=fsc
section
variable{P:au}{w:aN}{K:ay}{mg:Str->Option ae}{base:bu}{pt cc:Addr}
theorem bJx(T:Tx K mg "_law_deck" s_law_deck)(B:Bs mg)(AB:mg "abs"=none):Df P w K mg base 1 "_law_deck" ["script"] (spU K cZ7):=by
 refine aZl T sc_law_deck (λF=>F.binds λ_ _ _ _ _ _=>us1 λ_=>rfl) ?_ λf cdv A outer s H E hr=>⟨_,(aQ2 (aQ9 (i:=1) sc_law_deck.nd rfl (a9 rfl) aQb)
  (aQ2 (aQ9 (i:=2) sc_law_deck.nd rfl (a9 rfl) (aQp (k:=false) (aJ2 aQb (bJp rfl B.len (aQ0 (dv 0) aQ1))) aQb))
  (aQ2 (aZw cK rfl (aZb (e_sl (b:=false) (dv 0) aX1 (aQz aQb))) (aQk (i:=3) sc_law_deck.nd rfl (a9 rfl)) (aQ3 (aXs (fQt hr (fZp rfl AB (aQ0 (dv 3) aQ1)) (fXw aQb aQb)) (aQ3 (aQ9 (i:=1) sc_law_deck.nd rfl (a9 rfl) (aQp (k:=false) (fZv (dv 1) aQb) (fZp rfl AB (aQ0 (dv 3) aQ1))))) (aQ3 (aQ9 (i:=2) sc_law_deck.nd rfl (a9 rfl) (bQo (aQp (k:=false) (aJ2 (dv 2) aQb) (dv 3)) aQb))))))
  (aQ3 (aQe (aX0 (b:=true) (aQ0 (dv 1) (aQ0 (dv 2) (aQ0 aQb aQ1))))))))),?_⟩
 ·rintro ds S Q ⟨ns,rfl,_⟩;rfl
 ·rintro ds S Q ⟨ns,rfl,h63,hw,q⟩;have e:cutD (ns.map D.int) none (some 63)=ns.map D.int:=cQp _ rfl (by show HT.sIx _ _ (some ((63:Nat):Int))=_;rw[HT.sIx_nat];simp;omega)
  have Z:(3:Nat)<=sizeLine:=z9999 (by decide)
  refine⟨_,rfl,.inl ⟨by decide,by decide⟩,?_⟩
  refine⟨63,rfl,_,rfl,ns.map D.int,e,aZ8 (λi Γ S'=>S'=S/\∃(g x:Int) (z:Option D),Γ=[some (.lst (ns.map D.int)),some (.int g),some (.int x),z]/\0<=g/\g.natAbs<2^(1048600+206*i)/\0<=x/\x<2^31) ⟨rfl,0,17*((ns.map D.int).length:Int)+11,none,rfl,ji _,Nat.two_pow_pos _,by rw[ah];omega,by rw[ah];omega⟩ ?_ ?_⟩
  ·rintro i y Γ S1 N L ⟨rfl,g,x,z,rfl,j,g1,x0,G⟩ U;rw[aL,bR] at L;obtain⟨c,O,rfl⟩:=L;obtain⟨hi,_⟩:=aB.mp O;have cw:=hw c (am O);have Y:(if c<0 then -c else c)=(c.natAbs:Int):=by split <;> omega
   obtain⟨n0,n1⟩:=cZz (k:=i) j g1 cw (by omega)
   refine⟨trivial,⟨by decide,by decide,by decide⟩,_,rfl,ite2 (λc0=>?_) λc0=>?_⟩
   ·have J:g.natAbs<2^4000000:=Nat.lt_of_lt_of_le g1 (Nat.pow_le_pow_right (by decide) (by omega))
    refine⟨⟨by decide,by decide,J⟩,U _ _ ⟨rfl,_,x,_,rfl,?_,?_,x0,G⟩⟩
    ·show 0<=g*2^(205:Int).toNat+(if c<0 then -c else c)
     rw[Y];exact n0
    ·show(g*2^(205:Int).toNat+(if c<0 then -c else c)).natAbs<_
     rw[Y];exact n1
   ·refine⟨.inl ⟨by omega,by omega⟩,by show(0:Int)<1999999871;decide,U _ _ ⟨rfl,g,_,_,rfl,j,Nat.lt_of_lt_of_le g1 (Nat.pow_le_pow_right (by decide) (by omega)),iw _ (by decide),?_⟩⟩
    exact Int.lt_of_lt_of_le (gx _ (by decide)) (by decide)
  ·rintro Γ S1 ⟨rfl,g,x,z,rfl,j,g1,x0,G⟩;exact⟨trivial,Z,λp hp=>aQg (q p _ hp (λb J=>supd_ne J) ⟨g,x,0,aQ6,j,x0,G,ji _,ji _⟩)⟩
end
abbrev s_law_draw:Stmt:=top 22
theorem sc_law_draw:FnScope ["deck", "most", "found", "turn", "one"] ["deck", "most"] (aQ5 s_law_draw):=fsc
section
variable{P:au}{w:aN}{K:ay}{mg:Str->Option ae}{base:bu}{pt cc:Addr}
theorem bJy(T:Tx K mg "_law_draw" s_law_draw)(B:Bs mg):Df P w K mg base 1 "_law_draw" ["deck", "most"] (spU K aXb):=by
 refine aZl T sc_law_draw (λF=>F.binds λ_ _ _ _ _ _=>us2 λ_ _=>rfl) ?_ λf Y A outer s H E U=>⟨_,(aQ2 (cJf (aQp (k:=false) (e_ix (dv 0) aQb) aQb) (dJ6 (dv 0) aQb))
  (aQ2 (aXs (fQs U (e_ix (dv 0) aQb) aQb) (aQ2 (aQ9 (i:=2) sc_law_draw.nd rfl (a9 rfl) (bQo (e_ix (dv 0) aQb) (dv 1)))
  (aQ2 (cJf (dXz (e_ix (dv 0) aQb) (dv 1)) (dJ6 (dv 0) aQb))
  (aQ3 (aQe (dv 2))))) aZ3)
  (aQ2 (aQ9 (i:=3) sc_law_draw.nd rfl (a9 rfl) (e_ix (dv 0) aQb))
  (aQ2 (aQ9 (i:=4) sc_law_draw.nd rfl (a9 rfl) (bQo (aQp (k:=false) (aQp (k:=false) (e_ix (dv 0) aQb) (aJ2 (aJ2 aQb (dv 3)) (dv 3))) (aJ2 aQb (dv 3))) aQb))
  (aQ2 (aQ9 (i:=4) sc_law_draw.nd rfl (a9 rfl) (bQo (aJ2 (dv 4) (dv 4)) aQb))
  (aQ3 (aQe (bQo (dXz (bQo (aQp (k:=false) (aJ2 (dv 4) aQb) (aJ2 (dv 3) aQb)) aQb) aQb) (dv 1))))))))),?_⟩
 ·rintro ds S Q ⟨a,m,n,rfl,_⟩;rfl
 ·rintro ds S Q ⟨a,m,n,rfl,⟨g,x,t,J,L,x0,G,t0,t1⟩,hn,m1,m2,q⟩;have j:supd S a (.lst [.int g,.int x,.int (t+1)]) a=some (.lst [.int g,.int x,.int (t+1)]):=aQ6;have md:∀z:Int,0<=z%m/\z%m<m:=λz=>⟨iw _ (by omega),gx _ (by omega)⟩
  have O:∀(z k:Int),0<k->k<2^32->-(2^64)<z%k/\z%k<2^64:=λz k h1 h2=>⟨by have:=iw z (show k≠0 by omega);omega,by have:=gx z h1;omega⟩
  refine⟨_,_,J,rfl,_,_,J,rfl,?_⟩;refine⟨_,_,j,rfl,_,rfl,ite2 (λZ=>?_) λZ=>?_⟩
  ·refine⟨_,_,j,rfl,by show(0:Int)<m;omega,_,_,j,rfl,⟨by omega,by omega⟩,_,_,j,rfl,aQg (q _ _ (md g).1 (md g).2 (λb D=>by rw[supd_ne D];exact supd_ne D) ⟨g/m,x,t+1,?_,Int.ediv_nonneg L (by omega),x0,G,by omega,by omega⟩)⟩
   exact aQ6
  ·refine⟨_,_,j,rfl,_,_,j,rfl,.inl ⟨by decide,by decide⟩,.inr ⟨by omega,by omega⟩,.inl ⟨by decide,by decide⟩,by show(0:Int)<2147483543;decide,.inl (O _ _ (by decide) (by decide)),by show(0:Int)<2147483497;decide,.inr ⟨by decide,by decide⟩,.inr ⟨by decide,by decide⟩,by show(0:Int)<2147483477;decide,⟨by decide,by decide⟩,by show(0:Int)<m;omega,aQg (q _ _ (md _).1 (md _).2 (λb D=>supd_ne D) ⟨g,x,t+1,j,L,x0,G,by omega,by omega⟩)⟩
end
end Toy
namespace L2
open PySem
theorem eX6{u v:Str}{c d:Nat}(h:u++(⟨#[c]⟩:Str)++v=u++(⟨#[d]⟩:Str)++v):c=d:=by
 have e:(u.cps++#[c]++v.cps).toList=(u.cps++#[d]++v.cps).toList:=congrArg (λs:Str=>s.cps.toList) h;rw[bS,bS,bS,bS] at e;have q:=List.append_cancel_right e;have j:=List.append_cancel_left q;exact(List.cons.inj j).1
theorem dQ6(u v:Str){cs:List Nat}(nd:cs.Nodup):(cs.map λc=>u++(⟨#[c]⟩:Str)++v).Nodup:=by
 unfold gy;rw[bH];exact kI (λ{a b} j e=>j (eX6 e)) nd
theorem dX4(b:Nat):((aI 12).map λk=>97+(b+k)%26).Nodup:=by
 unfold gy;rw[bH];refine aJ ?_ (dq (n:=12));intro i j hi z q e
 have:=ax.mp hi
 have:=ax.mp z
 exact q (by omega)
end L2
namespace Toy
open PySem L2
theorem dX5{a:Addr}{ys:List D}{n:Nat}{S:Sto}(dk:DkD S a n)(hn:n+ys.length<=1000000)(h8:ys.length<=8){Q:List D->Sto->Prop}
  (q:∀(cs:List Nat) S',cs.length=ys.length->Off a S S'->DkD S' a (n+ys.length)->Q ((cs.map sg).map D.str) S') :
  aZd (aQq 0) dYes (bQb (dOp ixD (dVar 1) (dCB aXb (bJl (dVar 2) (bJl (dC (.int 26)) dNil))))) (λ_=>True) [none,some (.str lettersZ),some (.ref a)] ys [] S Q:=by
 refine aX8 (λi acc S'=>∃cs:List Nat,acc=(cs.map sg).map D.str/\cs.length=i/\Off a S S'/\DkD S' a (n+i)) ⟨[],rfl,rfl,λ_ _=>rfl,dk⟩ ?_ ?_
 ·rintro i x acc Sx N Z ⟨cs,rfl,z,Y,G⟩ hN;have hi:=(aB.mp Z).1;refine⟨trivial,a,26,n+i,rfl,G,by lia,by decide,by decide,λJ L U O j B=>?_⟩
  obtain⟨k,rfl⟩:∃k:Nat,J=k:=⟨J.toNat,by lia⟩
  exact⟨z9999 (by decide),_,bQe (by lia:k<26),z9999 (by rw[ah,ah];lia),hN _ _ ⟨cs++[97+k],by rw[aZ,aZ];rfl,by rw[ap,z];rfl,Y.trans j,B⟩⟩
 ·rintro acc L ⟨cs,rfl,z,j,B⟩;exact⟨trivial,q cs L z j B⟩
theorem fZw{a lp:Addr}{n:Nat}{S:Sto}{xs:List D}{m:Nat}(hal:a≠lp)(dk:DkD S a n)(hn:n+m<=1000000)(hS:S lp=some (.lst xs))(hm:m<=xs.length)(hx:xs.length<=999){Q:List D->Sto->Prop}
  (q:∀vs us S',(vs++us).Perm xs->vs.length=m->S' lp=some (.lst us)->DkD S' a (n+m)->(∀b,b≠lp->b≠a->S' b=S b)->Q vs S') :
  aZd (aQq 0) dYes (bQb (dMt cJs ckL (dVar 1) (bJl (dCB aXb (bJl (dVar 2) (bJl (dCB lenD (bJl (dVar 1) dNil)) dNil))) dNil))) (λ_=>True) [none,some (.ref lp),some (.ref a)] (rngD 0 m) [] S Q:=by
 refine aX8 (λi acc S'=>∃us:List D,acc.length=i/\S' lp=some (.lst us)/\(acc++us).Perm xs/\DkD S' a (n+i)/\∀b,b≠lp->b≠a->S' b=S b) ⟨xs,rfl,hS,.refl _,dk,λ_ _ _=>rfl⟩ ?_ ?_
 ·rintro i x vs S' N O ⟨us,B,hl,pm,G,z⟩ hN;obtain⟨hi,rfl⟩:=bXs O;have hul:us.length+i=xs.length:=by have:=pm.length_eq;rw[ap] at this;omega
  refine⟨trivial,⟨_,hl⟩,_,hl,a,(us.length:Int),n+i,rfl,G,by omega,by omega,by omega,λr S2 r0 r1 J Z=>?_⟩
  obtain⟨j,rfl⟩:∃j:Nat,r=j:=⟨r.toNat,by omega⟩
  have hj:j<us.length:=by omega
  have U:S2 lp=some (.lst us):=(J lp (cA hal)).trans hl;obtain⟨g,x,t,Y,d1,d2,d3,d4,d5⟩:=Z;refine⟨_,j,us[j],U,rfl,by omega,af hj,by rw[bK];omega,hN _ _ ⟨us.eraseIdx j,?_,aQ6,?_,⟨g,x,t,(supd_ne hal).trans Y,d1,d2,d3,d4,by omega⟩,λb hb L=>(supd_ne hb).trans ((J b L).trans (z b hb L))⟩⟩
  ·rw[ap,B];rfl
  ·refine List.Perm.trans ?_ pm;rw[bd];exact(List.perm_append_left_iff vs).mpr (bQf us j hj)
 ·rintro vs S' ⟨us,B,hl,pm,G,z⟩;rw[aZc] at B G;exact⟨trivial,q vs us S' pm B hl G z⟩
end Toy
namespace L2
open PySem Toy
def wordsD:List Str:=[bo "a",bo "b",bo "ab",bo "ba",bo "sets",bo "put",bo "take",bo "core",bo "way",bo "row",bo "none",bo "near"]
def made0(b k:Nat):Str:=sg (97+(b+k)%26)++repS (bo "q") (1+(k:Int)%7)
theorem ok0:∀b,b<26->(wordsD++(aI 12).map (made0 b)).Nodup/\∀x∈wordsD++(aI 12).map (made0 b),1<=x.length/\x.length<=8:=by decide +kernel
def dX6(u v:Str)(b k:Nat):Str:=u++sg (97+(b+k)%26)++v
theorem nd1(u v:Str)(b:Nat):((aI 12).map (dX6 u v b)).Nodup:=by
 have e:(aI 12).map (dX6 u v b)=((aI 12).map λk=>97+(b+k)%26).map λc=>u++(⟨#[c]⟩:Str)++v:=by rw[bI];rfl
 rw[e];exact dQ6 u v (dX4 b)
theorem eX7{z:Str}(hz:z.length=7)(p:Nat)(h:Option Int):(cutS z none (some (p:Int))).length+(cutS z (some (p:Int)) h).length<=7:=by
 have j:z.cps.toList.length=7:=by rw[bn];exact hz
 have B:(cutS z none (some (p:Int))).length<=min p 7:=by
  rw[cutS_eq];show(List.toArray _).size<=_;rw[aq,aM,HT.sIx_nat,hz];omega
 have q:(cutS z (some (p:Int)) h).length<=7-min p 7:=by
  rw[cutS_eq];show(List.toArray _).size<=_;rw[aq,aM,bm,HT.sIx_nat,hz,j];omega
 omega
theorem DkD.eq{S S':Sto}{a:Addr}{n:Nat}(h:DkD S a n)(e:S' a=S a):DkD S' a n:=by
 obtain⟨g,m,t,j,r⟩:=h;exact⟨g,m,t,e.trans j,r⟩
theorem DkD.ne{S:Sto}{a p:Addr}{n:Nat}(h:DkD S a n)(hp:S p=none):p≠a:=by
 obtain⟨g,m,t,j,_⟩:=h;rintro rfl;rw[j] at hp;cases hp
end L2
namespace Toy
open PySem L2
end Toy
namespace L2
open PySem Toy
end L2
namespace Toy
open PySem L2
abbrev s_law_names:Stmt:=top 23
theorem sc_law_names:FnScope ["deck", "many", "letters", "spare", "begin", "near", "place", "alike", "k", "sign"] ["deck", "many"] (aQ5 s_law_names):=fsc
section
variable{P:au}{w:aN}{K:ay}{mg:Str->Option ae}{base:bu}{pt cc:Addr}
theorem bXy(T:Tx K mg "_law_names" s_law_names)(B:Bs mg)(d_law_draw:Df P w K mg base 1 "_law_draw" ["deck", "most"] (spU K aXb)):Df P w K mg base 2 "_law_names" ["deck", "many"] (spU K bXx):=by
 refine aZl T sc_law_names (λF=>F.binds λ_ _ _ _ _ _=>us2 λ_ _=>rfl) ?_ λf cdv A outer s H E hr=>⟨_,(aQ2 (aQ9 (i:=2) sc_law_names.nd rfl (iz rfl) aXk)
  (aQ2 (aQ9 (i:=3) sc_law_names.nd rfl (iz rfl) (aX0 (b:=true) (aQ0 aXk (aQ0 aXk (aQ0 aXk (aQ0 aXk (aQ0 aXk (aQ0 aXk (aQ0 aXk (aQ0 aXk (aQ0 aXk (aQ0 aXk (aQ0 aXk (aQ0 aXk aQ1))))))))))))))
  (aQ2 (aQ9 (i:=4) sc_law_names.nd rfl (a9 rfl) (aQ4 d_law_draw hr rfl (aQ0 (dv 0) (aQ0 aQb aQ1))))
  (aQ2 (aQ9 (i:=5) sc_law_names.nd rfl (a9 rfl) (fZa aXk (aQ0 (aZa (N':=["k", "letters", "deck"]) (oc:=none) (b:=false) [0] [] rfl sc_law_names.nd (λ_ _ _=>aQf ..) (.own (.cap (i:=2) rfl (by decide +kernel) (.cap (i:=0) rfl (by decide +kernel) .nil))) (aQh rfl) (aZo rfl B.range (aQ0 aQb aQ1)) (cg_name (i:=0)) (λ_ _ _ _ _=>aQd (i:=0) (nd_ ["k", "letters", "deck"]) rfl (a9 rfl) (.inr rfl)) (λ_ _ _ _ _=>aZ7) aQn (λ_ _ _ _ _ _=>aQl rfl (by exact PD.o (e_ix (dv 1) (aQ4 d_law_draw hr rfl (aQ0 (dv 2) (aQ0 aQb aQ1))))))) aQ1)))
  (aQ2 (aQ9 (i:=5) sc_law_names.nd rfl (a9 rfl) (aQp (k:=false) (dv 5) (e_ix (dv 2) (dv 4))))
  (aQ2 (aQ9 (i:=6) sc_law_names.nd rfl (a9 rfl) (aQp (k:=false) (aQ4 d_law_draw hr rfl (aQ0 (dv 0) (aQ0 aQb aQ1))) (bQo (dv 4) aQb)))
  (aQ2 (aQ9 (i:=7) sc_law_names.nd rfl (a9 rfl) (aQ4 d_law_draw hr rfl (aQ0 (dv 0) (aQ0 aQb aQ1))))
  (aQ2 (aQ9 (i:=3) sc_law_names.nd rfl (iz rfl) (e_sl (b:=true) (dv 3) (aQz (aJ2 aQb (dv 7))) aX1))
  (aQ2 (aZw cK rfl (aZo rfl B.range (aQ0 aQb aQ1)) (aQk (i:=8) sc_law_names.nd rfl (a9 rfl)) (aQ2 (aQ9 (i:=9) sc_law_names.nd rfl (a9 rfl) (e_ix (dv 2) (bQo (aQp (k:=false) (dv 4) (dv 8)) aQb)))
  (aQ3 (bQ8 (bZk (dv 3) (aQ0 (e_ix (aX0 (b:=false) (aQ0 (aQp (k:=false) (dv 9) (fJa aXk (aQp (k:=false) aQb (bQo (dv 8) aQb)))) (aQ0 (aQp (k:=false) (aQp (k:=false) (e_sl (b:=false) (dv 5) aX1 (aQz (dv 6))) (dv 9)) (e_sl (b:=false) (dv 5) (aQz (dv 6)) (aQz (bQo (dv 4) aQb)))) aQ1))) (dv 7)) aQ1))))))
  (aQ3 (aQe (aZa (N':=["k", "spare", "deck"]) (oc:=none) (b:=false) [0] [] rfl sc_law_names.nd (λ_ _ _=>aQf ..) (.own (.cap (i:=3) rfl (by decide +kernel) (.cap (i:=0) rfl (by decide +kernel) .nil))) (aQh rfl) (aZo rfl B.range (aQ0 (dv 1) aQ1)) (cg_name (i:=0)) (λ_ _ _ _ _=>aQd (i:=0) (nd_ ["k", "spare", "deck"]) rfl (a9 rfl) (.inr rfl)) (λ_ _ _ _ _=>aZ7) aQn (λ_ _ _ _ _ _=>aQl rfl (by exact PD.o (eZj (dv 1) (aQ0 (aQ4 d_law_draw hr rfl (aQ0 (dv 2) (aQ0 (bJp rfl B.len (aQ0 (dv 1) aQ1)) aQ1))) aQ1)))))))))))))))),?_⟩
 ·rintro ds S Q ⟨a,many,n,rfl,_⟩;rfl
 ·rintro ds S Q ⟨a,many,n,rfl,dk,hn,hm,q⟩;refine⟨z9999 (by show 12<=9999;decide),λp1 hp1=>?_⟩
  have L:=dk.ne hp1;refine⟨a,26,n,rfl,dk.eq (supd_ne (cA L)),by omega,by decide,by decide,λb' S1 b0 b1 Z dk1=>?_⟩
  obtain⟨b,rfl⟩:∃b:Nat,b'=b:=⟨b'.toNat,by omega⟩
  refine⟨trivial,⟨by decide,by decide⟩,?_⟩
  refine dX5 dk1 (by rw[aZc];show n+1+6<=_;omega) (by rw[aZc];show 6<=8;decide) λbs S2 hbl Y dk2=>?_
  rw[aZc] at hbl dk2;have hb6:bs.length=6:=hbl;refine⟨bs.map sg,rfl,by rw[dJi,hb6,ah];show 6+_*0<=_;omega,?_⟩
  rw[eZp];generalize hbase:(⟨bs.toArray⟩:Str)=base;have hbl6:base.length=6:=by rw[<- hbase];show bs.toArray.size=6;rw[aq];exact hb6
  refine⟨z9999 (by decide),_,bQe (by omega:b<26),z9999 (by show base.length+1<=9999;omega),?_⟩
  generalize hnear:base++(⟨#[97+b]⟩:Str)=near;have hn7:near.length=7:=by
   rw[<- hnear];show(base.cps++#[97+b]).size=7;rw[de];show base.length+1=7;omega
  refine⟨a,7,n+1+6,rfl,dk2,by omega,by decide,by decide,λj S3 p0 p1' U dk3=>⟨by show(0:Int)<2;decide,?_⟩⟩
  obtain⟨pl,hpl⟩:∃pl:Nat,j+(b:Int)%2=pl:=⟨(j+(b:Int)%2).toNat,by omega⟩
  refine⟨a,2,n+1+6+1,rfl,dk3,by omega,by decide,by decide,λal S4 l0 l1 O dk4=>?_⟩
  have hSp:S4 p1=some (.lst (wordsD.map D.str)):=(O p1 L).trans ((U p1 L).trans ((Y p1 L).trans ((Z p1 L).trans aQ6)));refine⟨.inl ⟨by decide,by decide⟩,_,rfl,_,hSp,λp2 hp2=>?_⟩
  have h2a:=dk4.ne hp2;obtain⟨ws,mk,J,hnd,hlen,hmk⟩:∃(ws:List Str) (mk:Nat->Str),cutD (wordsD.map D.str) (some (12*al)) none=ws.map D.str/\(ws++(aI 12).map mk).Nodup/\(∀x∈ws++(aI 12).map mk,1<=x.length/\x.length<=8)/\∀k:Nat,atI [D.str ((⟨#[97+(b+k)%26]⟩:Str)++repS (bo "q") (1+(k:Int)%7)),D.str (cutS near none (some (j+(b:Int)%2))++(⟨#[97+(b+k)%26]⟩:Str)++cutS near (some (j+(b:Int)%2)) (some ((b:Int)%8)))] al=some (.str (mk k)):=by
   have h:al=0\/al=1:=by omega
   rw[hpl];rcases h with rfl|rfl
   ·exact⟨wordsD,made0 b,rfl,(ok0 b (by omega)).1,(ok0 b (by omega)).2,λk=>rfl⟩
   ·refine⟨[],dX6 (cutS near none (some (pl:Int))) (cutS near (some (pl:Int)) (some ((b:Int)%8))) b,rfl,nd1 _ _ _,λx hx=>?_,λk=>rfl⟩;obtain⟨k,_,rfl⟩:=aQ.mp hx
    have:=eX7 hn7 pl (some ((b:Int)%8))
    have e:∀u v:Str,(dX6 u v b k).length=u.length+1+v.length:=λu v=>by
     show(u.cps++#[97+(b+k)%26]++v.cps).size=_;rw[de,de];rfl
    rw[e];omega
  rw[J];refine⟨⟨by decide,by decide⟩,aZ8 (λi Γ S'=>(∃x8 x9:Option D,Γ=[some (.ref a),some (.int many),some (.str lettersZ),some (.ref p2),some (.int (b:Nat)),some (.str near),some (.int (j+(b:Int)%2)),some (.int al),x8,x9])/\S' p2=some (.lst ((ws++(aI i).map mk).map D.str))/\∀c,c≠p2->S' c=S4 c) ⟨⟨none,none,rfl⟩,by rw[aQ6];simp,λc G=>supd_ne G⟩ ?_ ?_⟩
  ·rintro i x Γ S' N hx ⟨⟨x8,x9,rfl⟩,hf,z⟩ hN;obtain⟨hi,rfl⟩:=bXs hx;have hi12:i<12:=hi;have hlt:atI lettersZ.cps.toList (((b:Int)+(i:Int))%26)=some (97+(b+i)%26):=by
    have e:((b:Int)+(i:Int))%26=(((b+i)%26:Nat):Int):=by omega
    rw[e];exact bQe (by omega)
   have n7:near.length<=1000000:=by omega
   have c7:∀u v:Option Int,(cutS near u v).length<=7:=λu v=>eX4 near u v hn7;have r8:(repS (bo "q") (1+(i:Int)%7)).length<=7:=by rw[cQw rfl (by omega)];omega
   refine⟨trivial,by show(0:Int)<26;decide,z9999 (by decide),_,hlt,⟨_,hf⟩,?_⟩
   refine⟨by show(0:Int)<7;decide,rfl,by omega,by omega,z9999 (by show 1+(repS (bo "q") (1+(i:Int)%7)).length<=9999;omega),?_⟩
   refine⟨_,rfl,n7,z9999 (by show(cutS near none (some (j+(b:Int)%2))).length+1<=9999;have:=c7 none (some (j+(b:Int)%2));omega),_,rfl,by show(0:Int)<8;decide,_,rfl,n7,?_,z9999 (by show 2<=9999;decide),_,_,rfl,hmk i,_,hf,?_,hN _ _ ⟨⟨_,_,rfl⟩,?_,λc G=>(supd_ne G).trans (z c G)⟩⟩
   ·refine z9999 ?_;have h1:=c7 none (some (j+(b:Int)%2));have h2:=c7 (some (j+(b:Int)%2)) (some ((b:Int)%8));show((cutS near none (some (j+(b:Int)%2))).cps++#[97+(b+i)%26]).size+(cutS near (some (j+(b:Int)%2)) (some ((b:Int)%8))).length<=9999;rw[de];show(cutS near none (some (j+(b:Int)%2))).length+1+_<=9999;omega
   ·rw[ah,ap,ah,bF,bK]
    have:ws.length<=12:=by
     have:=congrArg d9 J
     rw[ah] at this;rw[<- this];unfold cutD;rw[aM,bm];show _<=12
     have:(wordsD.map D.str).length=12:=rfl
     omega
    omega
   ·rw[aQ6,dQ];simp
  ·rintro Γ S' ⟨⟨x8,x9,rfl⟩,hf,z⟩;rw[aZc] at hf;have dk5:DkD S' a (n+9):=(dk4.eq (z a (cA h2a))).mono (by omega)
   have hw12:ws.length<=12:=by
    have:=congrArg d9 J
    rw[ah] at this;rw[<- this];unfold cutD;rw[aM,bm]
    have:(wordsD.map D.str).length=12:=rfl
    omega
   refine⟨trivial,⟨by omega,by omega⟩,?_⟩
   rw[b5];refine fZw (m:=many) (cA h2a) dk5 (by omega) hf (by rw[ah,ap,ah,bF];show many<=_+12;omega) (by rw[ah,ap,ah,bF];show _+12<=999;omega) λvs us S9 pm hvl hl9 dk9 off9=>?_
   obtain⟨as,bs',rfl,rfl,pn⟩:=dQ3 (f:=D.str) dStr' (λ_=>rfl) pm;rw[ah] at hvl;refine cJr (S':=λc=>if c=a then S9 c else S c) (λc o e=>?_) (q as _ (bV.mp (pn.nodup_iff.mpr hnd)).1 hvl (λx hx=>hlen x (pn.mem_iff.mp (be _ hx))) (λc G=>if_neg G) (dk9.eq (if_pos rfl)))
   by_cases G:c=a
   ·rw[if_pos G] at e;exact e
   ·rw[if_neg G] at e;have n1:c≠p1:=by rintro rfl;rw[hp1] at e;cases e
    have e4:S4 c=some o:=(O c G).trans ((U c G).trans ((Y c G).trans ((Z c G).trans ((supd_ne n1).trans e))));have n2:c≠p2:=by rintro rfl;rw[hp2] at e4;cases e4
    exact(off9 c n2 G).trans ((z c n2).trans e4)
end
end Toy
namespace L2
open PySem
open Toy (ch ch_zero ch_cons ch_mem mem_ch)
section
variable{α:Type}[DecidableEq α]
def FreeB(bs:List (List α))(r:List α):Prop:=∀b∈bs,¬ ∀x∈b,x∈r
def frB(bs:List (List α))(r:List α):Bool:=bs.all λb=>!(b.all λx=>decide (x∈r))
structure MfS(ts:List α)(bs:List (List α))(over:Int)(r:List α):Prop where
 sub:r.Sublist ts
 free:FreeB bs r
 more:over<r.length
 most:∀r',r'.Sublist ts->FreeB bs r'->r'.length<=r.length
 fst:((ch ts r.length).filter (frB bs)).head?=some r
end
end L2
set_option maxHeartbeats 4000000
namespace L2
open PySem
theorem dX7(xs:List D)(i:Nat):cutD xs (some ((i:Int)+1)) none=xs.drop (i+1):=by
 rcases Nat.lt_or_ge i xs.length with h|h
 ·have e:cutD xs (some ((i:Int)+1)) none=cutD (xs.map id) (some (((i+1:Nat):Int))) none:=by rw[ku];rfl
  rw[e,bZn,HT.sIx_none,HT.sIx_nat,Nat.min_eq_left (by lia),bN (by rw[bm];exact Nat.le_refl _),ku]
 ·have e:cutD xs (some ((i:Int)+1)) none=cutD (xs.map id) (some (((i+1:Nat):Int))) none:=by rw[ku];rfl
  rw[e,bZn,HT.sIx_none,HT.sIx_nat,bQ (by lia),bQ (by lia),List.take_nil]
  rfl
end L2
namespace Toy
open PySem L2
def dX8(n:Nat):SpD:=λds S Q=>∃(xs:List D) (m:Nat),ds=[.tup xs,.int m]/\m<n/\xs.length<=20/\Q (.lst ((ch xs m).map D.tup)) S
end Toy
namespace L2
open PySem
open Toy (ch ch_cons ch_zero ch_mem mem_ch coG naG lfG meG laG Sun dX2 aJe mem_me)
end L2
namespace Toy
open PySem L2
end Toy
namespace L2
open PySem Toy
end L2
namespace L2
open PySem
open Toy (ch ch_cons ch_zero ch_mem mem_ch coG naG lfG meG laG Sun dX2 aJe mem_me)
end L2
namespace L2
open PySem
open Toy (ch ch_cons ch_zero ch_mem mem_ch coG naG lfG meG laG Sun dX2 aJe mem_me)
theorem me_comm{a b:List Str}(ha:Srt a)(hb:Srt b):meG a b=meG b a:=Srt.ext (cP _ ha) (cP _ hb) λn=>by rw[mem_me,mem_me];exact⟨λh=>⟨h.2,h.1⟩,λh=>⟨h.2,h.1⟩⟩
def Fm(s:List (List Str))(c:List Str):Prop:=s.Pairwise λa b=>meG a b=c
theorem cX0{s:List (List Str)}(h2:2<=s.length)(nd:s.Nodup)(hs:∀o∈s,Srt o){c:List Str}:coG s=some c↔Fm s c:=by
 rw[<- dX2 (lt:=λa b=>HT.ltS a b=true) (λa=>by rw[HT.ltS_ir];simp) (λa b h=>by rw[HT.ltS_as h];simp) h2 nd hs]
 match s,h2,hs with
 |a::b::r,_,hs =>
  have eq:∀d:List Str,((a::b::r).Pairwise λother one=>meG one other=d)↔Fm (a::b::r) d:=λd=>by
   unfold Fm;constructor
   ·intro h;refine aJ ?_ h;intro x y q j e;rw[me_comm (hs x q) (hs y j)];exact e
   ·intro h;refine aJ ?_ h;intro x y q j e;rw[me_comm (hs y j) (hs x q)];exact e
  have z:∀d,Fm (a::b::r) d->meG a b=d:=λd h=>(aX.mp h).1 b ak;show(if (a::b::r).Pairwise (λother one=>meG one other=meG a b) then some (meG a b) else none)=some c↔_
  constructor
  ·intro h
   split at h
   ·next B=>cases h;exact(eq _).mp B
   ·cases h
  ·intro h
   have:=z c h
   subst this;rw[if_pos ((eq _).mpr h)]
end L2
namespace Toy
open PySem L2
end Toy
namespace L2
open PySem
open Toy (ch ch_mem mem_ch cZ5 meG)
end L2
namespace L2
open PySem
open Toy (ch ch_mem mem_ch coG naG lfG meG aJe mem_me)
end L2
namespace L2
open PySem
open Toy (meG mem_me)
end L2
namespace L2
open PySem
open Toy
theorem dX9{P:Prop}[Decidable P](h:P):D.bl (if true=true then !decide P else decide P)=D.bl false:=by rw[decide_eq_true h];rfl
end L2
set_option maxHeartbeats 1000000
namespace L2
open PySem Toy
end L2
set_option maxHeartbeats 4000000
namespace L2
open PySem Toy
section
variable{α:Type}[DecidableEq α](ok:List α->Bool)
variable{ok}
variable{lt:α->α->Bool}
variable(ok lt) in
end
end L2
namespace Toy
open PySem L2
end Toy
namespace L2
open PySem Toy
end L2
set_option maxHeartbeats 1000000
namespace L2
open PySem Toy
def hav(ts:List (List Str))(core:List Str):List (List Str):=ts.filter λt=>has t core
def mt2(p:List (List Str)):List Str:=(p.getD 0 []).filter λx=>decide (x∈p.getD 1 [])
def mtg(hs:List (List Str))(core:List Str):List (List (List Str)):=(ch hs 2).filter λp=>!decide (mt2 p=core)
theorem aJo{hs:List (List Str)}{p:List (List Str)}(h:p∈ch hs 2):∃a b,p=[a,b]/\[a,b].Sublist hs:=by
 obtain⟨h1,h2⟩:=ch_mem h
 match p,h1 with
 |[a,b],_=>exact⟨a,b,rfl,h2⟩
theorem dQ7{a b:List Str}(ha:Srt a)(hb:Srt b):(a.filter λx=>decide (x∈b))=b.filter λx=>decide (x∈a) :=
 Srt.ext (cP _ ha) (cP _ hb) λn=>by simp[and_comm]
theorem dXa{hs r:List (List Str)}{core:List Str}(hs':∀t∈hs,Srt t)(nd:hs.Nodup)(hr:r.Sublist hs):FreeB (mtg hs core) r↔r.Pairwise λa b=>(a.filter λx=>decide (x∈b))=core:=by
 constructor
 ·intro h;rw[List.pairwise_iff_forall_sublist];intro a b q;refine aR λz=>?_;refine h [a,b] (av.mpr ⟨mem_ch (q.trans hr),?_⟩) λx Z=>q.subset Z
  have:mt2 [a,b]≠core:=z
  simp[this]
 ·intro h p hp B;obtain⟨h1,h2⟩:=av.mp hp;obtain⟨a,b,rfl,q⟩:=aJo h1;have D:a≠b:=by
   have:=nd.sublist q
   simp at this;exact this
  have Y:=B a (by simp)
  have U:=B b (by simp)
  have key:(a.filter λx=>decide (x∈b))=core:=by
   obtain⟨i,hi,J⟩:=bh Y;obtain⟨j,O,G⟩:=bh U;have L:=bO.mp h;rcases Nat.lt_trichotomy i j with z|z|z
   ·have:=L i j hi O z
    rwa [J,G] at this
   ·subst z;exact absurd (J.symm.trans G) D
   ·have:=L j i O hi z
    rw[J,G] at this;rw[dQ7 (hs' a (hr.subset Y)) (hs' b (hr.subset U))];exact this
  have:mt2 [a,b]=core:=key
  simp[this] at h2
end L2
namespace L2
open PySem PySem.Spec PyProof.Rows
end L2
set_option maxHeartbeats 4000000
namespace L2
open PySem
open Toy
end L2
set_option maxHeartbeats 1000000
namespace L2
open PySem Toy
theorem cZ8{α:Type}:∀xs:List α,2*(ch xs 2).length<=xs.length*(xs.length-1)
 |[]=>by simp[dJf]
 |x::xs=>by
  have j:=cZ8 xs;rw[ch_cons,ap,ah,dJg,ah,aK,Nat.add_sub_cancel];have e:(xs.length+1)*xs.length=xs.length*(xs.length-1)+2*xs.length:=by
   cases xs with
   |nil=>rfl
   |cons y ys=>simp only[aK,Nat.add_sub_cancel];rw[Nat.mul_comm (ys.length+1) ys.length,<- Nat.add_mul]
  lia
def mets(ts:List (List Str)):List (List Str):=(ch ts 2).map mt2
theorem cZ9(ts:List (List Str))(h:ts.length<=14):(mets ts).length<=91:=by
 have h1:=cZ8 ts;have h2:ts.length*(ts.length-1)<=14*13:=Nat.mul_le_mul h (by lia)
 unfold mets;rw[ah];lia
theorem dQ8{ts:List (List Str)}{n:Nat}(h:∀t∈ts,t.length<=n){c:List Str}(hc:c∈mets ts):c.length<=n:=by
 obtain⟨p,q,rfl⟩:=aQ.mp hc;obtain⟨a,b,rfl,j⟩:=aJo q;exact Nat.le_trans (bf _ _) (h a (j.subset (by simp)))
theorem eX8{ts:List (List Str)}(hs:SrtT ts)(he:∀t∈ts,Srt t){core:List Str}(h:core∈mets ts):Srt core/\∀r,MfS (hav ts core) (mtg (hav ts core) core) (-1) r->2<=r.length:=by
 obtain⟨p,G,rfl⟩:=aQ.mp h;obtain⟨a,b,rfl,j⟩:=aJo G;have L:=he a (j.subset (by simp))
 have O:=he b (j.subset (by simp))
 refine⟨cP _ L,λr D=>?_⟩;have sub:[a,b].Sublist (hav ts (mt2 [a,b])):=by
  have h1:=j.filter λt=>has t (mt2 [a,b]);have e:[a,b].filter (λt=>has t (mt2 [a,b]))=[a,b]:=by
   rw[List.filter_eq_self];intro t z;rw[has_iff];intro x B;have q:=av.mp B;rcases aD.mp z with rfl|z
   ·exact q.1
   ·rw[aH.mp z];exact of_decide_eq_true q.2
  rw[e] at h1;exact h1
 have:=D.most [a,b] sub ((dXa (λt z=>he t (av.mp z).1) (hs.nodup.filter _) sub).mpr (by
  refine aX.mpr ⟨λc J=>?_,bB _ _⟩;rw[aH.mp J];rfl))
 exact this
theorem dQ9{a b:List Str}(ha:Srt a)(hb:Srt b):meG a b=meG b a:=Srt.ext (cP _ ha) (cP _ hb) λx=>by rw[mem_me,mem_me];exact And.comm
theorem bXz{α:Type}{l:List α}{R:α->α->Prop}(sy:∀a∈l,∀b∈l,R a b->R b a)(h:l.Pairwise R):∀a∈l,∀b∈l,a≠b->R a b:=λa D b B ne=>by
 obtain⟨i,hi,rfl⟩:=bh D;obtain⟨j,z,rfl⟩:=bh B;rcases Nat.lt_trichotomy i j with q|q|q
 ·exact bO.mp h i j hi z q
 ·subst q;exact absurd rfl ne
 ·exact sy _ B _ D (bO.mp h j i z hi q)
section
variable{ns ms:List Str}(hl:ms.length=ns.length)(nn:ns.Nodup)(nm:ms.Nodup)
include hl nm
include nn in
include nn in
end
end L2
namespace Toy
open PySem L2
section
variable{α β:Type}
def apP(R:α->α->Bool):(α->Bool)->List α->Nat->Nat
 |_,_,0=>1
 |_,[],_+1=>0
 |p,a::l,k+1=>(if p a=true then apP R (λb=>p b&&R a b) l k else 0)+apP R p l (k+1)
def pwB(R:α->α->Bool):List α->Bool
 |[]=>true
 |a::s=>s.all (R a)&&pwB R s
def twP(R:α->α->Bool)(p:α->Bool)(x y:α)(l:List α):Nat->Nat
 |0=>0
 |j+1=>apP R (λc=>(p c&&R x c)&&R y c) l j
theorem aZ0(R:α->α->Bool)(p:α->Bool)(l:List α):apP R p l 0=1:=by cases l <;> rfl
theorem cZa(R:α->α->Bool):∀(l:List α) (k:Nat) (p:α->Bool),((ch l k).filter λs=>s.all p&&pwB R s).length=apP R p l k
 |l,0,p=>by rw[ch_zero,aZ0];rfl
 |[],k+1,p=>rfl
 |a::l,k+1,p=>by
  rw[ch_cons,List.filter_append,ap,cZa R l (k+1) p,List.filter_map,ah];show _=(if p a=true then _ else 0)+_
  congr 1
  cases h:p a with
  |false =>
   rw[if_neg bz,gD,List.filter_eq_nil_iff];intro s _ z;have z:((p a&&s.all p)&&(s.all (R a)&&pwB R s))=true:=z;rw[h] at z;cases z
  |true =>
   rw[if_pos rfl,<- cZa R l k]
   congr 1
   refine List.filter_congr λs hm=>?_;clear hm;show((p a&&s.all p)&&(s.all (R a)&&pwB R s))=((s.all λb=>p b&&R a b)&&pwB R s);rw[h,fH,<- Bool.and_assoc]
   congr 1
   induction s with
   |nil=>rfl
   |cons b s j =>
    rw[ij,ij,ij,<- j];cases p b <;> cases R a b <;> cases s.all p <;> rfl
theorem aZq{R R':α->α->Bool}:∀(l:List α) (k:Nat) (p p':α->Bool),(∀a∈l,p a=p' a)->(∀a∈l,∀b∈l,p a=true->p b=true->R a b=R' a b)->apP R p l k=apP R' p' l k
 |l,0,p,p',_,_=>by rw[aZ0,aZ0]
 |[],k+1,p,p',_,_=>rfl
 |a::l,k+1,p,p',h,q=>by
  show(if p a=true then _ else 0)+_=(if p' a=true then _ else 0)+_
  rw[<- h a ak,aZq l (k+1) p p' (λb j=>h b (ao _ j)) λb j c z=>q b (ao _ j) c (ao _ z)]
  congr 1
  by_cases e:p a=true
  ·rw[if_pos e,if_pos e];refine aZq l k _ _ (λb j=>?_) λb j c z h1 h2=>q b (ao _ j) c (ao _ z) ((aY _ _).mp h1).1 ((aY _ _).mp h2).1;show(p b&&R a b)=(p' b&&R' a b);rw[<- h b (ao _ j)];cases hp:p b with
   |false=>rfl
   |true=>rw[q a ak b (ao _ j) e hp]
  ·rw[if_neg e,if_neg e]
theorem aXc(R:α->α->Bool)(q:α->Bool):∀(l:List α) (k:Nat) (p:α->Bool),apP R p (l.filter q) k=apP R (λa=>p a&&q a) l k
 |l,0,p=>by rw[aZ0,aZ0]
 |[],k+1,p=>rfl
 |a::l,k+1,p=>by
  rw[eR];show _=(if (p a&&q a)=true then _ else 0)+_
  cases hq:q a with
  |false=>rw[if_neg bz,kj,if_neg bz,Nat.zero_add,aXc R q l (k+1) p]
  |true =>
   rw[if_pos rfl,Bool.and_true];show(if p a=true then _ else 0)+_=_
   rw[aXc R q l (k+1) p]
   congr 1
   by_cases e:p a=true
   ·rw[if_pos e,if_pos e,aXc R q l k];refine aZq l k _ _ (λb _=>?_) λ_ _ _ _ _ _=>rfl;show((p b&&R a b)&&q b)=((p b&&q b)&&R a b);cases p b <;> cases R a b <;> cases q b <;> rfl
   ·rw[if_neg e,if_neg e]
theorem bQg(f:β->α)(R:α->α->Bool):∀(l:List β) (k:Nat) (p:α->Bool),apP R p (l.map f) k=apP (λa b=>R (f a) (f b)) (λa=>p (f a)) l k
 |l,0,p=>by rw[aZ0,aZ0]
 |[],k+1,p=>rfl
 |a::l,k+1,p=>by
  rw[aU];show(if p (f a)=true then _ else 0)+_=(if p (f a)=true then _ else 0)+_
  rw[bQg f R l (k+1) p,bQg f R l k]
theorem bZv{R:α->α->Bool}(sy:∀a b,R a b=R b a){l l':List α}(h:l.Perm l'):∀(k:Nat) (p:α->Bool),apP R p l k=apP R p l' k:=by
 induction h with
 |nil=>intro k p;rfl
 |@cons a l l' _ B =>
  intro k p;cases k with
  |zero=>rfl
  |succ k =>
   show(if p a=true then _ else 0)+_=(if p a=true then _ else 0)+_
   rw[B (k+1) p,B k]
 |@swap a b l =>
  intro k p;cases k with
  |zero=>rfl
  |succ k =>
   show(if p b=true then apP R (λc=>p c&&R b c) (a::l) k else 0)+((if p a=true then apP R (λc=>p c&&R a c) l k else 0)+apP R p l (k+1))=(if p a=true then apP R (λc=>p c&&R a c) (b::l) k else 0)+((if p b=true then apP R (λc=>p c&&R b c) l k else 0)+apP R p l (k+1))
   have key:∀x y:α,(if p x=true then apP R (λc=>p c&&R x c) (y::l) k else 0)=(if p x=true/\p y=true/\R x y=true then twP R p x y l k else 0)+(if p x=true then apP R (λc=>p c&&R x c) l k else 0):=λx y=>by
    by_cases e:p x=true
    ·rw[if_pos e,if_pos e];cases k with
     |zero =>
      rw[aZ0,aZ0]
      split <;> rfl
     |succ j =>
      show(if (p y&&R x y)=true then _ else 0)+_=_
      congr 1
      by_cases q:p y=true/\R x y=true
      ·rw[if_pos (by rw[q.1,q.2];rfl),if_pos ⟨e,q.1,q.2⟩];rfl
      ·rw[if_neg (λz=>q ((aY _ _).mp z)),if_neg (λz=>q z.2)]
    ·rw[if_neg e,if_neg e,if_neg (λz=>e z.1)]
   rw[key b a,key a b];have s1:(if p b=true/\p a=true/\R b a=true then twP R p b a l k else 0)=(if p a=true/\p b=true/\R a b=true then twP R p a b l k else 0):=by
    rw[sy b a]
    by_cases e:p a=true/\p b=true/\R a b=true
    ·rw[if_pos e,if_pos ⟨e.2.1,e.1,e.2.2⟩];cases k with
     |zero=>rfl
     |succ j =>
      show apP R _ l j=apP R _ l j;refine aZq l j _ _ (λc _=>?_) λ_ _ _ _ _ _=>rfl;show((p c&&R b c)&&R a c)=((p c&&R a c)&&R b c);cases p c <;> cases R a c <;> cases R b c <;> rfl
    ·rw[if_neg e,if_neg (λz=>e ⟨z.2.1,z.1,z.2.2⟩)]
   rw[s1];omega
 |trans _ _ h1 h2=>intro k p;rw[h1 k p,h2 k p]
end
def geq(one:List Str)(n:Str):Bool:=!HT.lexS [n] (one.take 1)
def stK(many:Nat)(one:List Str)(e:Nat×List Str):List (Nat×List Str):=(e.1,e.2.filter (geq one))::if e.1<many/\mts one (e.2.filter (geq one))=false then [(e.1+1,srS (e.2.filter (geq one)++one))] else []
def finK(many:Nat):List (List Str)->Nat×List Str->List (Nat×List Str)
 |[],e=>[e]
 |o::R,e=>(stK many o e).flatMap (finK many R)
theorem eX9{o o':List Str}(s':Srt o')(h:HT.lexS o o'=true\/o=o')(so:Srt o):∀n∈o',geq o n=true:=by
 intro n hn;unfold geq;cases o with
 |nil=>rfl
 |cons x r =>
  show(!(if n=x then HT.lexS [] [] else HT.ltS n x))=true
  by_cases e:n=x
  ·rw[if_pos e];rfl
  ·rw[if_neg e]
   have:HT.ltS n x=false:=by
    cases o' with
    |nil=>cases hn
    |cons y B =>
     have j:y=n\/HT.ltS y n=true:=by
      rcases aD.mp hn with rfl|hn
      ·exact .inl rfl
      ·exact .inr ((aX.mp s').1 n hn)
     have z:x=y\/HT.ltS x y=true:=by
      rcases h with h|h
      ·rw[HT.lexS_cons] at h
       by_cases q:x=y
       ·exact .inl q
       ·rw[if_neg q] at h;exact .inr h
      ·injection h with h _;exact .inl h
     rcases z with rfl|z
     ·rcases j with rfl|j
      ·exact absurd rfl e
      ·exact HT.ltS_as j
     ·rcases j with rfl|j
      ·exact HT.ltS_as z
      ·exact HT.ltS_as (HT.ltS_tr z j)
   rw[this];rfl
theorem dQa{o o' t:List Str}(s':Srt o')(h:HT.lexS o o'=true\/o=o')(so:Srt o):mts o' (t.filter (geq o))=mts o' t:=by
 refine c5.mpr ?_;rw[mts_iff,mts_iff];constructor
 ·rintro⟨x,h1,h2⟩;exact⟨x,(av.mp h1).1,h2⟩
 ·rintro⟨x,h1,h2⟩;exact⟨x,av.mpr ⟨h1,eX9 s' h so x h2⟩,h2⟩
theorem bJz{many:Nat}:∀(R:List (List Str)) (e:Nat×List Str) (p:List Str->Bool),SrtT R->(∀o∈R,Srt o)->e.1<=many->(∀o∈R,p o=!mts o e.2)->((finK many R e).filter λk=>decide (k.1=many)).length=apP (λa b=>!mts b a) p R (many-e.1)
 |[],e,p,_,_,he,_=>by
  show([e].filter _).length=_;rw[eR]
  by_cases q:e.1=many
  ·rw[if_pos (decide_eq_true q),q,Nat.sub_self];rfl
  ·rw[if_neg (by rw[decide_eq_false q];exact bz)]
   obtain⟨k,L⟩:∃k,many-e.1=k+1:=⟨many-e.1-1,by omega⟩
   rw[L];rfl
 |o::R,e,p,Y,U,he,J=>by
  have G:=U o ak;have B:=(aX.mp Y);have D:∀x∈R,Srt x:=λx j=>U x (ao _ j);have mo:mts o (e.2.filter (geq o))=mts o e.2:=dQa G (.inr rfl) G;have O:∀x∈R,mts x (e.2.filter (geq o))=mts x e.2:=λx j=>dQa (D x j) (.inl (B.1 x j)) G;have c1:((finK many R (e.1,e.2.filter (geq o))).filter λk=>decide (k.1=many)).length=apP (λa b=>!mts b a) p R (many-e.1):=bJz R (e.1,e.2.filter (geq o)) p B.2 D he λx j=>by rw[J x (ao _ j)];show _=!mts x (e.2.filter (geq o));rw[O x j]
  show(((stK many o e).flatMap (finK many R)).filter _).length=_;unfold stK;rw[gV,List.filter_append,ap,c1]
  by_cases q:e.1=many
  ·rw[if_neg (λz=>by omega),q,Nat.sub_self,aZ0,aZ0];rfl
  obtain⟨k,L⟩:∃k,many-e.1=k+1:=⟨many-e.1-1,by omega⟩
  rw[L];show _=(if p o=true then _ else 0)+apP _ p R (k+1)
  have po:=J o ak
  by_cases m:mts o e.2=false
  ·have Z:p o=true:=by rw[po,m];rfl
   rw[if_pos ⟨by omega,by rw[mo];exact m⟩,if_pos Z,gV,List.flatMap_nil,cr]
   have c2:((finK many R (e.1+1,srS (e.2.filter (geq o)++o))).filter λk=>decide (k.1=many)).length=apP (λa b=>!mts b a) (λb=>p b&&(λa b=>!mts b a) o b) R (many-(e.1+1)):=bJz R (e.1+1,srS (e.2.filter (geq o)++o)) (λb=>p b && !mts b o) B.2 D (by show e.1+1<=many;omega) λx j=>by
    show(p x && !mts x o)=!mts x (srS (e.2.filter (geq o)++o));rw[J x (ao _ j),<- O x j,<- Bool.not_or]
    congr 1
    refine c5.mpr ?_;rw[Bool.or_eq_true,mts_iff,mts_iff,mts_iff];constructor
    ·rintro(⟨y,h1,h2⟩|⟨y,h1,h2⟩)
     ·exact⟨y,mem_srS.mpr (be _ h1),h2⟩
     ·exact⟨y,mem_srS.mpr (a7 _ h1),h2⟩
    ·rintro⟨y,h1,h2⟩;rcases aS.mp (mem_srS.mp h1) with h|h
     ·exact .inl ⟨y,h,h2⟩
     ·exact .inr ⟨y,h,h2⟩
   rw[c2,show many-(e.1+1)=k by omega]
   exact Nat.add_comm _ _
  ·have m:mts o e.2=true:=by cases h:mts o e.2 with|true=>rfl|false=>exact absurd h m
   rw[if_neg (λz=>by rw[mo,m] at z;cases z.2),if_neg (by rw[po,m];exact bz),Nat.zero_add]
   rfl
end Toy
set_option maxHeartbeats 4000000
namespace L2
open PySem
theorem bZw(xs:List D)(i:Nat):cutD xs none (some (i:Int))=xs.take i:=by
 show(xs.drop 0).take (HT.sIx xs.length xs.length (some ((i:Nat):Int))-0)=_;rw[HT.sIx_nat,gO,Nat.sub_zero];rcases Nat.le_total i xs.length with h|h
 ·rw[Nat.min_eq_left h]
 ·rw[Nat.min_eq_right h,cz,bN h]
theorem aXl{ts:List (List Str)}{N:List Str}(h:∀t∈ts,∀x∈t,x∈N):(nms ts).length<=N.length:=(dQ5 ts).nodup.length_le_of_subset λx q=>by
 obtain⟨t,z,j⟩:=mem_nms.mp q;exact h t z x j
end L2
set_option maxHeartbeats 1000000
namespace Toy
open PySem L2
section
variable{κ:Type}[DecidableEq κ]
def valK(l:List (κ×Nat))(k:κ):Nat:=((l.find? λp=>decide (p.1=k)).map (·.2)).getD 0
def addK(l:List (κ×Nat))(k:κ)(n:Nat):List (κ×Nat):=if (l.any λp=>decide (p.1=k))=true then l.map (λp=>if p.1=k then (p.1,valK l k+n) else p) else l++[(k,valK l k+n)]
def sumF(f:κ->Nat)(l:List (κ×Nat)):Nat:=(l.map λp=>p.2*f p.1).sum
theorem aXm(f:κ->Nat)(l m:List (κ×Nat)):sumF f (l++m)=sumF f l+sumF f m:=by unfold sumF;rw[aZ,List.sum_append]
theorem any_key{l:List (κ×Nat)}{k:κ}:(l.any λp=>decide (p.1=k))=true↔k∈l.map (·.1):=by
 rw[jE,aQ];exact⟨λ⟨p,h,e⟩=>⟨p,h,of_decide_eq_true e⟩,λ⟨p,h,e⟩=>⟨p,h,decide_eq_true e⟩⟩
theorem dQb{l:List (κ×Nat)}{k:κ}(h:k∉l.map (·.1)):valK l k=0:=by
 unfold valK;rw[List.find?_eq_none.mpr λp j e=>h (aQ.mpr ⟨p,j,of_decide_eq_true e⟩)]
 rfl
theorem dQc(f:κ->Nat)(k:κ)(v:Nat):∀l:List (κ×Nat),(l.map (·.1)).Nodup->k∈l.map (·.1)->sumF f (l.map λp=>if p.1=k then (p.1,v) else p)+valK l k*f k=sumF f l+v*f k
 |[],_,h=>by cases h
 |p::l,nd,h=>by
  obtain⟨D,B⟩:=bE.mp (show(p.1::l.map (·.1)).Nodup from nd)
  show(if p.1=k then (p.1,v) else p).2*f (if p.1=k then (p.1,v) else p).1+sumF f (l.map _)+valK (p::l) k*f k=p.2*f p.1+sumF f l+v*f k
  by_cases e:p.1=k
  ·have:(l.map λp=>if p.1=k then (p.1,v) else p)=l:=by
    conv=>rhs;rw[<- ku l]
    refine eG λq G=>if_neg λz=>D ?_;rw[e,<- z];exact List.mem_map_of_mem G
   have j:valK (p::l) k=p.2:=by
    unfold valK;rw[dg,decide_eq_true e];rfl
   rw[if_pos e,this,j,<- e];show v*f p.1+sumF f l+p.2*f p.1=_;omega
  ·have j:valK (p::l) k=valK l k:=by
    unfold valK;rw[dg,decide_eq_false e]
   have hm:k∈l.map (·.1):=(aD.mp (show k∈p.1::l.map (·.1) from h)).resolve_left λz=>e z.symm
   have:=dQc f k v l B hm
   rw[if_neg e,j];omega
theorem bQh{l:List (κ×Nat)}{k:κ}{n:Nat}:(addK l k n).map (·.1)=if k∈l.map (·.1) then l.map (·.1) else l.map (·.1)++[k]:=by
 unfold addK
 by_cases h:k∈l.map (·.1)
 ·rw[if_pos (any_key.mpr h),if_pos h,bI];refine eG λp _=>?_;show(if p.1=k then (p.1,_) else p).1=p.1
  split <;> rfl
 ·rw[if_neg (λz=>h (any_key.mp z)),if_neg h,aZ];rfl
theorem bZx{l:List (κ×Nat)}(nd:(l.map (·.1)).Nodup)(k:κ)(n:Nat):((addK l k n).map (·.1)).Nodup:=by
 rw[bQh]
 split
 ·exact nd
 ·next h=>exact bV.mpr ⟨nd,bB ..,λx q y j e=>h (by rw[aH.mp j] at e;exact e▸q)⟩
theorem aJp(l:List (κ×Nat))(k:κ)(n:Nat):(addK l k n).length<=l.length+1:=by
 have:=congrArg d9 (bQh (l:=l) (k:=k) (n:=n))
 rw[ah] at this;rw[this]
 split
 ·rw[ah];omega
 ·rw[ap,ah];exact Nat.le_refl _
theorem bZy(f:κ->Nat){l:List (κ×Nat)}(nd:(l.map (·.1)).Nodup)(k:κ)(n:Nat):sumF f (addK l k n)=sumF f l+n*f k:=by
 unfold addK
 by_cases h:k∈l.map (·.1)
 ·rw[if_pos (any_key.mpr h)]
  have:=dQc f k (valK l k+n) l nd h
  rw[Nat.add_mul] at this;omega
 ·rw[if_neg (λz=>h (any_key.mp z)),aXm,dQb h];show _+((0+n)*f k+0)=_;rw[Nat.zero_add,Nat.add_zero]
end
structure CtK(many:Nat)(ts:List (List Str))(l:List ((Nat×List Str)×Nat)):Prop where
 nd:(l.map (·.1)).Nodup
 sum:∀f,sumF f l=((ts.foldl (λL o=>L.flatMap (stK many o)) [(0,[])]).map f).sum
theorem dQd(many:Nat):∀(R:List (List Str)) (L:List (Nat×List Str)),R.foldl (λL o=>L.flatMap (stK many o)) L=L.flatMap (finK many R)
 |[],L=>by
  show L=L.flatMap λe=>[e];rw[List.flatMap_singleton']
 |o::R,L=>by
  show R.foldl _ (L.flatMap (stK many o))=_;rw[dQd many R,List.flatMap_assoc];rfl
theorem cZb{α β:Type}(f:β->Nat)(g:α->List β):∀L:List α,((L.flatMap g).map f).sum=(L.map λa=>((g a).map f).sum).sum
 |[]=>rfl
 |a::L=>by rw[gV,aZ,List.sum_append,cZb f g L];rfl
structure TnK(many:Nat)(o:List Str)(done:List ((Nat×List Str)×Nat))(ways:List ((Nat×List Str)×Nat)):Prop where
 nd:(ways.map (·.1)).Nodup
 sum:∀f,sumF f ways=sumF (λe=>((stK many o e).map f).sum) done
 len:ways.length<=2*done.length
theorem TnK.nil{many:Nat}{o:List Str}:TnK many o [] []:=⟨eT,λ_=>rfl,Nat.le_refl _⟩
theorem TnK.one{many:Nat}{o:List Str}{done ways:List ((Nat×List Str)×Nat)}(h:TnK many o done ways)(e:Nat×List Str)(n:Nat)(c:¬ (e.1<many/\mts o (e.2.filter (geq o))=false)):TnK many o (done++[(e,n)]) (addK ways (e.1,e.2.filter (geq o)) n):=by
 refine⟨bZx h.nd _ _,λf=>?_,by have:=aJp ways (e.1,e.2.filter (geq o)) n;have:=h.len;rw[ap];show _<=2*(done.length+1);omega⟩
 rw[bZy f h.nd,h.sum,aXm]
 congr 1
 show _=n*((stK many o e).map f).sum+0;unfold stK;rw[if_neg c];show _=n*(f _+0)+0;rw[Nat.add_zero,Nat.add_zero]
theorem TnK.two{many:Nat}{o:List Str}{done ways:List ((Nat×List Str)×Nat)}(h:TnK many o done ways)(e:Nat×List Str)(n:Nat)(c:e.1<many/\mts o (e.2.filter (geq o))=false):TnK many o (done++[(e,n)]) (addK (addK ways (e.1,e.2.filter (geq o)) n) (e.1+1,srS (e.2.filter (geq o)++o)) n):=by
 refine⟨bZx (bZx h.nd _ _) _ _,λf=>?_,?_⟩
 ·rw[bZy f (bZx h.nd _ _),bZy f h.nd,h.sum,aXm,Nat.add_assoc]
  congr 1
  show _=n*((stK many o e).map f).sum+0;unfold stK;rw[if_pos c];show _=n*(f _+(f _+0))+0;rw[Nat.mul_add,Nat.mul_add,Nat.mul_zero];omega
 ·have:=aJp ways (e.1,e.2.filter (geq o)) n
  have:=aJp (addK ways (e.1,e.2.filter (geq o)) n) (e.1+1,srS (e.2.filter (geq o)++o)) n
  have:=h.len
  rw[ap];show _<=2*(done.length+1);omega
theorem CtK.start(many:Nat):CtK many [] [((0,[]),1)]:=⟨bB ..,λf=>by show 1*f _+0=f _+0;rw[Nat.one_mul]⟩
theorem CtK.turn{many:Nat}{ts:List (List Str)}{o:List Str}{l ways:List ((Nat×List Str)×Nat)}(h:CtK many ts l)(t:TnK many o l ways):CtK many (ts++[o]) ways:=by
 refine⟨t.nd,λf=>?_⟩;rw[t.sum,h.sum,List.foldl_append];show _=((List.flatMap _ _).map f).sum;rw[cZb]
theorem CtK.told{many:Nat}{ts:List (List Str)}{l:List ((Nat×List Str)×Nat)}(h:CtK many ts l)(sR:SrtT ts)(hs:∀o∈ts,Srt o):((l.filter λp=>decide (p.1.1=many)).map (·.2)).sum=apP (λa b=>!mts b a) (λ_=>true) ts many:=by
 have e:((l.filter λp=>decide (p.1.1=many)).map (·.2)).sum=sumF (λk=>if k.1=many then 1 else 0) l:=by
  clear h;unfold sumF
  induction l with
  |nil=>rfl
  |cons p l j =>
   rw[eR]
   by_cases q:p.1.1=many
   ·rw[if_pos (decide_eq_true q),aU,cT,j,aU,cT];show _=p.2*(if p.1.1=many then 1 else 0)+_
    rw[if_pos q,Nat.mul_one]
   ·rw[if_neg (by rw[decide_eq_false q];exact bz),j,aU,cT]
    show _=p.2*(if p.1.1=many then 1 else 0)+_
    rw[if_neg q,Nat.mul_zero,Nat.zero_add]
 have z:∀L:List (Nat×List Str),(L.map λk=>if k.1=many then 1 else 0).sum=(L.filter λk=>decide (k.1=many)).length:=λL=>by
  induction L with
  |nil=>rfl
  |cons k L j =>
   rw[aU,cT,j,eR]
   by_cases q:k.1=many
   ·rw[if_pos q,if_pos (decide_eq_true q),aK];omega
   ·rw[if_neg q,if_neg (by rw[decide_eq_false q];exact bz)];omega
 rw[e,h.sum,z,dQd];rw[gV,List.flatMap_nil,cr];rw[bJz ts (0,[]) (λ_=>true) sR hs (Nat.zero_le _) λo _=>rfl]
 rfl
theorem pwB_iff{α:Type}{R:α->α->Bool}:∀{s:List α},pwB R s=true↔s.Pairwise λa b=>R a b=true
 |[]=>⟨λ_=>.nil,λ_=>rfl⟩
 |a::s=>by
  show(s.all (R a)&&pwB R s)=true↔_;rw[aY,b7,aX,pwB_iff]
theorem aZx(a b:List Str):mts a b=mts b a:=by
 refine c5.mpr ?_;rw[mts_iff,mts_iff];exact⟨λ⟨x,h1,h2⟩=>⟨x,h2,h1⟩,λ⟨x,h1,h2⟩=>⟨x,h2,h1⟩⟩
def cwc(ts:List (List Str))(m:Nat)(c:List Str):Nat:=((ch ts m).filter λs=>decide (coG s=some c)).length
def lkC(ts:List (List Str))(c:List Str):List (List Str):=srT ((ts.filter λt=>has t c).map λt=>wo t c)
theorem bQi{a b c:List Str}(ha:Srt a)(hc:Srt c)(pa:has a c=true)(pb:has b c=true):meG a b=c↔mts (wo b c) (wo a c)=false:=by
 have pa:=has_iff.mp pa;have pb:=has_iff.mp pb;constructor
 ·intro h;rw[<- ga,mts_iff];rintro⟨x,h1,h2⟩;rw[mem_wo] at h1 h2;exact h1.2 (by rw[<- h];exact mem_me.mpr ⟨h1.1,h2.1⟩)
 ·intro h;refine Srt.ext (cP _ ha) hc λn=>?_;rw[mem_me];constructor
  ·rintro⟨h1,h2⟩;refine aR λz=>?_
   have:mts (wo b c) (wo a c)=true:=mts_iff.mpr ⟨n,mem_wo.mpr ⟨h1,z⟩,mem_wo.mpr ⟨h2,z⟩⟩
   rw[h] at this;cases this
  ·exact λj=>⟨pa n j,pb n j⟩
theorem cZc{ts:List (List Str)}(nd:ts.Nodup)(hs:∀t∈ts,Srt t){m:Nat}(m2:2<=m){c:List Str}(hc:Srt c):cwc ts m c=apP (λa b=>!mts b a) (λ_=>true) (lkC ts c) m:=by
 unfold lkC;rw[bZv (λa b=>by rw[aZx]) (aZ5 _),bQg,aXc,<- cZa]
 unfold cwc
 congr 1
 refine List.filter_congr λs h=>?_;obtain⟨sl,sub⟩:=ch_mem h;have sn:s.Nodup:=nd.sublist sub;have ss:∀o∈s,Srt o:=λo O=>hs o (sub.subset O);refine c5.mpr ?_;rw[decide_eq_true_iff,cX0 (by omega) sn ss,aY,b7,pwB_iff]
 constructor
 ·intro D;have all:∀x∈s,(true&&has x c)=true:=by
   obtain⟨a,b,r,rfl⟩:∃a b r,s=a::b::r:=by
    cases s with
    |nil=>rw[cu] at sl;omega
    |cons a s =>
     cases s with
     |nil=>rw[dW] at sl;omega
     |cons b s=>exact⟨a,b,s,rfl⟩
   have h1:=(aX.mp D).1;intro x J;rw[fH,has_iff];intro n G;rcases aD.mp J with rfl|J
   ·have:=h1 b ak
    rw[<- this] at G;exact(mem_me.mp G).1
   ·have:=h1 x J
    rw[<- this] at G;exact(mem_me.mp G).2
  refine⟨all,aJ (λ{a b} B L e=>?_) D⟩;have q:=all a B;have j:=all b L;rw[fH] at q j;rw[(bQi (ss a B) hc q j).mp e];rfl
 ·rintro⟨all,D⟩;refine aJ (λ{a b} B L e=>?_) D;have q:=all a B;have j:=all b L;rw[fH] at q j;refine(bQi (ss a B) hc q j).mpr ?_;cases z:mts (wo b c) (wo a c) with
  |false=>rfl
  |true=>rw[z] at e;cases e
end Toy
namespace L2
open PySem PySem.Spec PyProof.Rows
section
variable{prog:au}{w:aN}{A:bj}{R:Result->aj->Prop}{s0:aj}{vs:List ae}{I S:Addr}{fp:List Addr}{St:Nat->bu->Prop}{kf:Nat->Int}
abbrev fZx(prog:au)(w:aN)(A:bj)(s0:aj)(vs:List ae)(kf:Nat->Int):Prop:=∀(i:Nat) (v:ae) (h:bu) (tk:Nat) (Q:ae->aj->Prop) (E:ae->aj->Prop),vs[i]?=some v->Kp s0.heap h->(∀t tk',Q (.int (kf i) t) {s0 with heap:=h,toks:=tk'})->aE (aF prog w) A.in1 (call (.builtin "len") [v]) Q E {s0 with heap:=h,toks:=tk}
theorem dQe(W:Walks prog w A.in1 I fp [I] vs.length (λi v=>vs[i]?=some v) St)(hI:s0.heap.objs.size<=I)(hIS:I<S)(hSf:S∉fp)(turn:fZx prog w A s0 vs kf)
  (fin:∀v h tk,vs[gb (λi j=>decide (kf i<kf j)) (vs.length-1)]?=some v->Kp s0.heap h->R (.ok (.ret v)) {s0 with heap:=h,toks:=tk}) :
  ∀(left j:Nat) (h:bu) (tk:Nat) (vb:ae) (tb:Tok) (c:Nat),j+1+left=vs.length->Kp s0.heap h->St (j+1) h->vs[gb (λi j=>decide (kf i<kf j)) j]?=some vb->h.get? S=some (b4 "list" #[vb,.int (kf (gb (λi j=>decide (kf i<kf j)) j)) tb] c) ->
   fB (aF prog w) A (.builtin "min.loop" ⟨[.ref I,.builtin "len",.ref S],[]⟩) R {s0 with heap:=h,toks:=tk}:=by
 have Y:S≠I:=Nat.ne_of_gt hIS;have nI:∀b o,s0.heap.get? b=some o->b≠I:=λb o e z=>absurd (aA e) (by rw[z];exact Nat.not_lt.mpr hI)
 have nS:∀b o,s0.heap.get? b=some o->b≠S:=λb o e z=>absurd (aA e) (by rw[z];exact Nat.not_lt.mpr (Nat.le_trans hI (Nat.le_of_lt hIS)))
 have word:(toString "min"++toString ".loop":String)="min.loop":=by decide
 intro left
 induction left with
 |zero =>
  intro j h tk vb tb c hj kp st hb U;refine cZ F.entry_min_loop ?_;rw[cD F.plain_min_loop _];show aE (aF prog w) A.in1 (jF (.ref S)>>=_) _ _ {s0 with heap:=h,toks:=tk}
  refine aa (dJ U rfl ?_);show aE (aF prog w) A.in1 (kx (eV (.ref I)) _>>=_) _ _ {s0 with heap:=h,toks:=tk}
  refine aa (fV (W.done {s0 with heap:=h,toks:=tk} _ _ ((show j+1=vs.length from hj)▸st) λh1 B O=>?_))
  have q:=O S _ (by simpa using Y) U
  show aE (aF prog w) A.in1 (updateSeq S (λ_=>#[])>>=_) _ _ _;refine aa ?_;refine fE q rfl (aa (jj (ad (fin vb _ B ?_ λb o e=>?_))))
  ·have e:vs.length-1=j:=by omega
   rw[e];exact hb
  ·exact(bL _ _ (cA (nS b o e))).trans (O b o (by simpa using nI b o e) (kp b o e))
 |succ left ih =>
  intro j h tk vb tb c hj kp st hb U;refine cZ F.entry_min_loop ?_;rw[cD F.plain_min_loop _];show aE (aF prog w) A.in1 (jF (.ref S)>>=_) _ _ {s0 with heap:=h,toks:=tk}
  refine aa (dJ U rfl ?_);show aE (aF prog w) A.in1 (kx (eV (.ref I)) _>>=_) _ _ {s0 with heap:=h,toks:=tk}
  refine aa (fV (W.item (j+1) {s0 with heap:=h,toks:=tk} _ _ (by omega) st λv h1 B hv L O=>?_))
  have q:=O S _ (by simpa using Y) U
  have D:Kp s0.heap h1:=λb o e=>O b o (by simpa using nI b o e) (kp b o e)
  show aE (aF prog w) A.in1 (kx (fW [v] (call (.builtin "len") [v])) _>>=_) _ _ _;refine aa (fV (bq (turn (j+1) v h1 B _ _ hv D λG J=>?_)));show aE (aF prog w) A.in1 (kx (fW [v,_] (richCompare .Lt (.int (kf (j+1)) G) (.int _ tb)>>=_)) _>>=_) _ _ _;refine aa (fV (bq (aa (HT.rcLt_int _ _ _ _ _ _ _ _ _ _ ?_))));refine aa (bq (dF (aa (jj (ad ?_)))));cases e:decide (kf (j+1)<kf (gb (λi j=>decide (kf i<kf j)) j)) with
  |true =>
   rw[if_pos rfl];refine aa ?_;refine fE q rfl (aa (jj ?_));rw[word];have hs3:(h1.update S (bU λ_=>#[v,.int (kf (j+1)) G])).get? S=some (b4 "list" #[v,.int (kf (j+1)) G] _):=fc q λ_=>#[v,.int (kf (j+1)) G];have kp4:Kp s0.heap (h1.update S (bU λ_=>#[v,.int (kf (j+1)) G])):=λb o eo=>(bL _ _ (cA (nS b o eo))).trans (D b o eo);have Z:gb (λi j=>decide (kf i<kf j)) (j+1)=j+1:=by simp only[gb,e,if_true]
   refine ad ⟨eO F.plain_min_loop _,ih (j+1) _ J v G _ (by omega) kp4 (W.frame _ _ _ L λb hb' o eo=>?_) (by rw[Z];exact hv) (by rw[Z];exact hs3)⟩
   exact(bL _ _ (λz:S=b=>hSf (by rw[z];exact hb'))).trans eo
  |false =>
   rw[if_neg (by simp)]
   refine aa (jj ?_);rw[word];have Z:gb (λi j=>decide (kf i<kf j)) (j+1)=gb (λi j=>decide (kf i<kf j)) j:=by simp only[gb,e,aV,if_false]
   refine ad ⟨eO F.plain_min_loop _,ih (j+1) h1 J vb tb c (by omega) D L (by rw[Z];exact hb) (by rw[Z];exact q)⟩
theorem dQf{E:ae->aj->Prop}{x:ae}{Q:ae->aj->Prop}{s:aj}(hv0:vs≠[])
  (it:∀R':ae->aj->Prop,(∀I h fp St,s.heap.objs.size<=I->I∈fp->(∀b∈fp,b<h.objs.size)->Kp s.heap h->St 0 h->Walks prog w A.in1 I fp [I] vs.length (λi v=>vs[i]?=some v) St->R' (.ref I) {s with heap:=h})->aE (aF prog w) A.in1 (jo x) R' E s)
  (turn:fZx prog w A s vs kf)
  (fin:∀v h tk,vs[gb (λi j=>decide (kf i<kf j)) (vs.length-1)]?=some v->Kp s.heap h->Q v {s with heap:=h,toks:=tk}) :
  aE (aF prog w) A (call (.builtin "min") [x] [(bo "key",.builtin "len")]) Q E s:=by
 have word:(toString "min"++toString ".loop":String)="min.loop":=by decide
 refine kmk_tree F.kind_min F.plain_min F.entry_min (kmk_min_key _ _) ?_;have bp:iG "min" ["key", "default"] 0 ⟨[],[(bo "key",.builtin "len")]⟩=pure [some (.builtin "len"),none]:=rfl;show aE (aF prog w) A.in1 (iG "min" ["key", "default"] 0 ⟨[],[(bo "key",.builtin "len")]⟩>>=_) _ _ s;refine aa (jd bp ?_);show aE (aF prog w) A.in1 (pure x>>=λitems=>jo items>>=_) _ _ s;refine aa (ad ?_);refine aa (it _ λI h fp St hI hIf L kp st W=>aa (bA ?_));rw[word];have O:h.objs.size∉fp:=λz=>Nat.lt_irrefl _ (L _ z);have q:I<h.objs.size:=L I hIf;show aE (aF prog w) A.in1 (again (Code.builtin "min.loop" ⟨[.ref I,.builtin "len",.ref h.objs.size],[]⟩)) _ _ {s with heap:=h.push (b4 "list" #[] 0)}
 have J:(h.push (b4 "list" #[] 0)).get? h.objs.size=some (b4 "list" #[] 0):=ar _ rfl;have kp1:Kp s.heap (h.push (b4 "list" #[] 0)):=λb o e=>ag _ (kp b o e);have st1:St 0 (h.push (b4 "list" #[] 0)):=W.frame _ _ _ st λb _ o e=>ag _ e;have hSI:h.objs.size≠I:=Nat.ne_of_gt q;have nI:∀b o,s.heap.get? b=some o->b≠I:=λb o e z=>absurd (aA e) (by rw[z];exact Nat.not_lt.mpr hI)
 have nS:∀b o,s.heap.get? b=some o->b≠h.objs.size:=λb o e z=>absurd (aA e) (by rw[z];exact Nat.not_lt.mpr (Nat.le_trans hI (Nat.le_of_lt q)))
 refine ad ⟨eO F.plain_min_loop _,cZ F.entry_min_loop ?_⟩;rw[cD F.plain_min_loop _];show aE (aF prog w) A.in1 (jF (.ref h.objs.size)>>=_) _ _ {s with heap:=h.push (b4 "list" #[] 0)}
 refine aa (dJ J rfl ?_);show aE (aF prog w) A.in1 (kx (eV (.ref I)) _>>=_) _ _ {s with heap:=h.push (b4 "list" #[] 0)}
 have hn:0<vs.length:=dO.mpr hv0;refine aa (fV (W.item 0 {s with heap:=h.push (b4 "list" #[] 0)} _ _ hn st1 λv h1 Y hv Z k1=>?_))
 have G:=k1 h.objs.size _ (by simpa using hSI) J
 have D:Kp s.heap h1:=λb o e=>k1 b o (by simpa using nI b o e) (kp1 b o e)
 show aE (aF prog w) A.in1 (kx (fW [v] (call (.builtin "len") [v])) _>>=_) _ _ _;refine aa (fV (bq (turn 0 v h1 Y _ _ hv D λB U=>?_)));show aE (aF prog w) A.in1 (updateSeq h.objs.size (λ_=>#[v,.int (kf 0) B])>>=_) _ _ _;refine aa ?_;refine fE G rfl ?_;rw[word];have hs4:(h1.update h.objs.size (bU λ_=>#[v,.int (kf 0) B])).get? h.objs.size=some (b4 "list" #[v,.int (kf 0) B] _):=fc G λ_=>#[v,.int (kf 0) B];have kp5:Kp s.heap (h1.update h.objs.size (bU λ_=>#[v,.int (kf 0) B])):=λb o e=>(bL _ _ (cA (nS b o e))).trans (D b o e);refine ad ⟨eO F.plain_min_loop _,dQe (s0:=s) (R:=wants Q E) W hI q O turn fin (vs.length-1) 0 _ U v B _ (by omega) kp5 (W.frame _ _ _ Z λb hb' o eo=>?_) hv hs4⟩
 exact(bL _ _ (λz:h.objs.size=b=>O (by rw[z];exact hb'))).trans eo
end
section
variable{X:Cx}{K:Fg}{pos:Pos}{k:Nat}
def shT(ts:List (List Str)):List Str:=ts.getD (gb (λi j=>decide (((ts.getD i []).length:Int)<((ts.getD j []).length:Int))) (ts.length-1)) []
def fJd(K:Fg)(te:TE):TE:=fun σ H Q=>te σ H λx H1=>∃a us,∃kf:Nat->Nat,x=.ref a/\SqT K H1 a us/\us≠[]/\(∀(i:Nat) u,us[i]?=some u->∃b ys,u=.ref b/\SqT K H1 b ys/\ys.length=kf i)/\∀u,us[gb (λi j=>decide ((kf i:Int)<(kf j:Int))) (us.length-1)]?=some u->Q u H1
theorem eXa{e:Expr}{p kp kp':Pos}{te:TE}(hg:Gl X "min")(hm:X.mg "min"=none)(hg':Gl X "len")(hm':X.mg "len"=none)(he:PE X e te)(hK:X.K=K:=by rfl)(hc:X.calm=true:=by rfl)
  (h1:cO pos (aC [e] X.env)=[(false,eval e X.env)]:=by rfl) (h2:(io pos (fy [⟨some "key",.Name "len" kp',kp⟩] X.env)).filterMap (·.1)=[("key":Str)]:=by rfl) :
  PE X (.Call (.Name "min" p) [e] [⟨some "key",.Name "len" kp',kp⟩] pos) (fJd K te):=by
 subst hK;intro pins s σ H Q I h;refine gw (ld_blt I hg hm (show cI "min"=some (.builtin "min") from rfl) ?_ (by decide) (by decide))
 have h3:(cO pos (aC [e] X.env)).any (·.1)=false:=by rw[h1];rfl
 have h4:cO pos (aC [e] X.env)=(false,eval e X.env)::cO pos (aC [] X.env):=by rw[h1];rfl
 refine callWith_kw ?_ h4 h3 rfl rfl;rw[h1,h2];refine gv (thn (he pins s σ H _ I h) λv s1 ⟨x,H1,G,r1,a,us,kf,O,sq,ne,ut,q⟩=>jb ?_);subst O;cases r1;refine kws_cons (ld_blt G hg' hm' (show cI "len"=some (.builtin "len") from rfl) (kws_nil ?_) (by decide) (by decide))
 have hh:X.A.in1.handled=none:=by simp[G.ok.hd hc]
 obtain⟨its,Y,pl,hz⟩:=G.tuple sq;have hl:=Y.length;have at_:∀(i:Nat) (v:ae),its[i]?=some v->∃u,us[i]?=some u/\RelV u v:=λi v j=>by
  have hi:=(aB.mp j).1;obtain⟨w,h1,h2⟩:=Y.get (af (show i<us.length by omega))
  rw[j] at h1;cases h1;exact⟨_,af (show i<us.length by omega),h2⟩
 refine dQf (kf:=λi=>(kf i:Int)) (vs:=its) (λz=>ne (bZ (by rw[hl,z];rfl))) (λR' h=>gA (show s1.heap.IsTuple a its.toArray from pl) ?_) (λi v h U Q' E' j kp Z=>?_) λv h U j kp=>?_
 ·obtain⟨o,ho,_⟩:=id pl;have D:a<s1.heap.objs.size:=aA ho;have W:=Walks.tuple (prog:=X.prog) (w:=X.w) (A:=X.A.in1) hh s1.heap.objs.size a (Nat.ne_of_lt D) its.toArray;have O:its.toArray.size=its.length:=by simp
  have e2:(λi v=>its.toArray[i]?=some v)=(λ(i:Nat) (v:ae)=>its[i]?=some v):=by funext i v;simp
  rw[O,e2] at W;exact h _ _ _ _ (Nat.le_refl _) (by simp) (λb L=>by
   rw[cV];rcases aD.mp L with rfl|L
   ·exact Nat.lt_succ_self _
   ·rw[aH.mp L];exact Nat.lt_succ_of_lt D) (λb o e=>ag _ e) ⟨⟨_,ar _ rfl,rfl,rfl⟩,(show s1.heap.IsTuple a its.toArray from pl).at λo e=>ag _ e⟩ W
 ·obtain⟨u,J,ru⟩:=at_ i v j;obtain⟨b,ys,rfl,sb,el⟩:=ut i u J;cases ru;obtain⟨ws,B,pw,hw⟩:=(G.kept (t':=U) kp).tuple sb;have hn:=aJs;have e0:ws.length=kf i:=by rw[<- el,B.length]
  have:=Z
  refine len_tuple (items:=ws.toArray) pw (by simp only[aq];have:=B.length;omega) ?_
  rw[aq,e0];exact Z _ _
 ·obtain⟨u,J,ru⟩:=at_ _ v j;exact⟨u,H1,G.kept kp,ru,q u (by rw[hl];exact J)⟩
def fJe(te:ED):ED:=fun Γ S Q=>te Γ S λd S1=>∃ts:List (List Str),d=.tup (ts.map tupS)/\ts≠[]/\Q (tupS (shT ts)) S1
theorem fZy{e:Expr}{te:ED}{p kp kp':Pos}(hg:Gl X "min")(hm:X.mg "min"=none)(hg':Gl X "len")(hm':X.mg "len"=none)(he:PD K X e te)(hK:X.K=K:=by rfl)(hc:X.calm=true:=by rfl)
  (h1:cO pos (aC [e] X.env)=[(false,eval e X.env)]:=by rfl) (h2:(io pos (fy [⟨some "key",.Name "len" kp',kp⟩] X.env)).filterMap (·.1)=[("key":Str)]:=by rfl) :
  PD K X (.Call (.Name "min" p) [e] [⟨some "key",.Name "len" kp',kp⟩] pos) (fJe te) :=
 .of (eXa hg hm hg' hm' he.o hK hc h1 h2) fun σ H Q G=>G.el λF S Γ QD r g q c =>
  ⟨F,S,Γ,_,r,g,q,λv d H1 S1 J L v1 ⟨ts,Y,ne,O⟩=>by
   subst Y;unfold RepV at v1;obtain⟨a,us,rfl,ta,l⟩:=v1;have hl:=l.length;rw[ah] at hl;have D:us≠[]:=λz=>ne (bZ (by rw[<- hl,z];rfl))
   have at_:∀(i:Nat) u,us[i]?=some u->RepV K (mt S1 F) H1 (tupS (ts.getD i [])) u/\i<ts.length:=λi u B=>by
    have hi:i<ts.length:=by rw[<- hl];exact(aB.mp B).1
    obtain⟨d,hd,j⟩:=l.get' B;rw[aL,af hi] at hd;rw[ai,af hi];cases hd;exact⟨j,hi⟩
   refine⟨a,us,λi=>(ts.getD i []).length,rfl,ta.sq,D,λi u B=>?_,λu B=>?_⟩
   ·obtain⟨j,hi⟩:=at_ i u B;unfold tupS at j;unfold RepV at j;obtain⟨b,ys,rfl,tb,U⟩:=j;exact⟨b,ys,rfl,tb.sq,by rw[U.length,ah]⟩
   ·obtain⟨j,_⟩:=at_ _ u B;rw[hl] at j;have Z:=Cn.shift c J;exact Z.here L j O⟩
end
end L2
namespace Toy
open PySem L2
def Ap(R:List (List Str))(m:Nat):Prop:=∃s:List (List Str),s.Nodup/\(∀x∈s,x∈R)/\s.length=m/\s.Pairwise λa b=>mts a b=false
theorem Ap.zero(R:List (List Str)):Ap R 0:=⟨[],.nil,by simp,rfl,.nil⟩
def rsA(R:List (List Str))(c:List Str):List (List Str):=wor (wo R [c]) c
theorem mem_rsA{R:List (List Str)}{c x:List Str}:x∈rsA R c↔x∈R/\x≠c/\mts x c=false:=by
 unfold rsA wor wo;rw[av,av];simp[and_assoc]
theorem Ap.more{R:List (List Str)}{c:List Str}{m:Nat}(hc:c∈R)(h:Ap (rsA R c) m):Ap R (m+1):=by
 obtain⟨s,nd,sub,hl,q⟩:=h;refine⟨c::s,bE.mpr ⟨λz=>(mem_rsA.mp (sub c z)).2.1 rfl,nd⟩,λx j=>?_,by rw[aK,hl],aX.mpr ⟨λx j=>by rw[aZx];exact(mem_rsA.mp (sub x j)).2.2,q⟩⟩
 rcases aD.mp j with rfl|h
 ·exact hc
 ·exact(mem_rsA.mp (sub x h)).1
theorem Ap.less{R:List (List Str)}{one:List Str}{m:Nat}(ho:one∈R)(h:Ap R (m+1)):Ap (rsA R one) m\/∃c∈R,mts c one=true/\has c one=false/\Ap (rsA R c) m:=by
 obtain⟨s,nd,sub,hl,z⟩:=h;have al:=bXz (λa _ b _ h=>by rw[aZx];exact h) z
 have go:∀ c∈s,Ap (rsA R c) m:=λc j=>⟨s.erase c,nd.erase c,λx q=>by
  obtain⟨h1,h2⟩:=(fo nd).mp q;exact mem_rsA.mpr ⟨sub x h2,h1,al x h2 c j h1⟩,by rw[gp j,hl];rfl,z.sublist i4⟩
 by_cases h1:∃c∈s,mts c one=true/\has c one=false
 ·obtain⟨c,j,a,b⟩:=h1;exact .inr ⟨c,sub c j,a,b,go c j⟩
 left
 by_cases h2:one∈s
 ·exact go one h2
 by_cases L:∃c∈s,mts c one=true
 ·obtain⟨c,j,a⟩:=L;have J:has c one=true:=by
   cases e:has c one with
   |true=>rfl
   |false=>exact absurd ⟨c,j,a,e⟩ h1
  refine⟨s.erase c,nd.erase c,λx q=>?_,by rw[gp j,hl];rfl,z.sublist i4⟩
  obtain⟨O,B⟩:=(fo nd).mp q;refine mem_rsA.mpr ⟨sub x B,λe=>h2 (e▸B),?_⟩
  have:=al x B c j O
  rw[<- ga,mts_iff] at this ⊢;rintro⟨n,G,D⟩
  first
   |exact this ⟨n,has_iff.mp J n G,D⟩
   |exact this ⟨n,G,has_iff.mp J n D⟩
 ·match s,hl with
  |y::s,hl =>
   refine⟨s,(bE.mp nd).2,λx q=>mem_rsA.mpr ⟨sub x (ao _ q),λe=>h2 (e▸ao _ q),?_⟩,by simpa using hl,(aX.mp z).2⟩
   cases e:mts x one with
   |false=>rfl
   |true=>exact absurd ⟨x,ao _ q,e⟩ L
theorem dJj{x:Int}:∀{l:List Int},x∈l->l.sum=x+(l.erase x).sum
 |a::l,h=>by
  by_cases e:a=x
  ·subst e;rw[List.erase_cons_head,cT]
  ·have j:x∈l:=(aD.mp h).resolve_left λz=>e z.symm;rw[List.erase_cons_tail (by simpa using e),cT,cT,dJj j];omega
theorem aJq:∀(L A B:List Int),L.Pairwise (λa b=>decide (a<=b)=true)->L.Perm (A++B)->(L.take A.length).sum<=A.sum
 |L,[],B,_,_=>by rw[cu,iY];exact ji _
 |[],a::A,B,_,h=>by have:=h.length_eq;simp at this
 |x::L,a::A,B,U,h=>by
  obtain⟨h1,h2⟩:=aX.mp U;have Z:x<=a:=by
   have:a∈x::L:=h.mem_iff.mpr (by simp)
   rcases aD.mp this with e|e
   ·exact Int.le_of_eq e.symm
   ·exact of_decide_eq_true (h1 a e)
  rw[aK,List.take_succ_cons,cT,cT]
  by_cases e:x=a
  ·subst e
   have:=aJq L A B h2 (i5 h)
   omega
  have O:x∈A++B:=by
   have:x∈a::A++B:=h.mem_iff.mp ak
   rcases aD.mp this with z|z
   ·exact absurd z e
   ·exact z
  by_cases q:x∈A
  ·have j:A.Perm (x::A.erase x):=List.perm_cons_erase q;have p2:L.Perm ((a::A.erase x)++B):=by
    refine i5 (a:=x) (h.trans ?_);exact((j.append_right B).cons a).trans (iQ x a _)
   have:=aJq L (a::A.erase x) B h2 p2
   have D:=j.length_eq;have s1:=dJj q;rw[aK] at this D;rw[cT] at this;rw[D];omega
  ·have Y:x∈B:=(aS.mp O).resolve_left q;have j:B.Perm (x::B.erase x):=List.perm_cons_erase Y;have p2:L.Perm (A++(a::B.erase x)):=by
    refine i5 (a:=x) (h.trans ?_);have J:(a::A++B).Perm (a::(A++(x::B.erase x))):=((dX A j)).cons a;have G:(a::(A++(x::B.erase x))).Perm (a::x::(A++B.erase x)):=(eQ).cons a;exact J.trans (G.trans ((iQ x a _).trans ((eQ.symm).cons x)))
   have:=aJq L A (a::B.erase x) h2 p2
   omega
theorem Ap.small{R:List (List Str)}(nd:R.Nodup)(hs:∀t∈R,t.Nodup){m:Nat}(h:Ap R m):m<=R.length/\((srI (R.map λt=>(t.length:Int))).take m).sum<=((nms R).length:Int):=by
 obtain⟨s,sn,sub,rfl,G⟩:=h;refine⟨sn.length_le_of_subset sub,?_⟩;have J:R.Perm (s++R.filter λx=>!decide (x∈s)):=by
  refine(cM nd (bV.mpr ⟨sn,nd.filter _,λx j y q e=>by subst e;simpa [j] using (av.mp q).2⟩)).mpr λx=>?_
  rw[aS,av]
  by_cases z:x∈s
  ·simp[z,sub x z]
  ·simp[z]
 have p2:=((bZm (R.map λt=>(t.length:Int))).trans (J.map λt=>(t.length:Int)));rw[aZ] at p2;have t1:=aJq _ _ _ (dJb _) p2;rw[ah] at t1;refine Int.le_trans t1 ?_;have fs:∀l:List (List Str),(l.map λt=>(t.length:Int)).sum=(l.flatten.length:Int):=λl=>by
  induction l with
  |nil=>rfl
  |cons a l L=>rw[aU,cT,L,gU,ap];omega
 rw[fs];have fn:s.flatten.Nodup:=by
  unfold gy;rw[List.pairwise_flatten];refine⟨λt D=>hs t (sub t D),aJ (λ{a b} U O h=>?_) G⟩;intro x j y q e;subst e
  have:mts a b=true:=by
   rw[mts_iff]
   first
    |exact⟨x,j,q⟩
    |exact⟨x,q,j⟩
  rw[h] at this;cases this
 have:=fn.length_le_of_subset (l₂:=nms R) λx j=>by
  obtain⟨t,D,B⟩:=f9.mp j;exact mem_nms.mpr ⟨t,sub t D,B⟩
 omega
end Toy
namespace L2
open PySem Toy
end L2
namespace L2
open PySem PySem.Spec PyProof.Rows
end L2
namespace L2
open PySem Toy
end L2
namespace Toy
open PySem L2
theorem Ap.sub{R:List (List Str)}(nd:R.Nodup){m:Nat}:Ap R m↔∃s:List (List Str),s.Sublist R/\s.length=m/\s.Pairwise λa b=>mts a b=false:=by
 constructor
 ·rintro⟨s,sn,sub,hl,j⟩;have al:=bXz (λa _ b _ h=>by rw[aZx];exact h) j
  have pm:(R.filter λx=>decide (x∈s)).Perm s:=(cM (nd.filter _) sn).mpr λx=>by
   rw[av];exact⟨λh=>of_decide_eq_true h.2,λh=>⟨sub x h,decide_eq_true h⟩⟩
  exact⟨_,fu,by rw[pm.length_eq,hl],aJ (λ{a b} B z n=>al a (of_decide_eq_true (av.mp B).2) b (of_decide_eq_true (av.mp z).2) n) (nd.filter _)⟩
 ·rintro⟨s,sub,hl,j⟩;exact⟨s,nd.sublist sub,λx q=>sub.subset q,hl,j⟩
theorem dQg{ts:List (List Str)}{c:List Str}(nd:ts.Nodup)(es:∀t∈ts,Srt t):(lkC ts c).Nodup:=by
 unfold lkC;refine(aZ5 _).nodup_iff.mpr (bH.mpr (aJ (λ{a b} z q n e=>n ?_) (nd.filter _)));obtain⟨a1,a2⟩:=av.mp z;obtain⟨D,B⟩:=av.mp q;refine(es a a1).ext (es b D) λx=>?_;have key:∀x,x∈wo a c↔x∈wo b c:=λx=>by rw[e]
 by_cases j:x∈c
 ·exact⟨λ_=>has_iff.mp B x j,λ_=>has_iff.mp a2 x j⟩
 ·exact⟨λh=>(mem_wo.mp ((key x).mp (mem_wo.mpr ⟨h,j⟩))).1,λh=>(mem_wo.mp ((key x).mpr (mem_wo.mpr ⟨h,j⟩))).1⟩
theorem eXb{ts:List (List Str)}(nd:ts.Nodup)(es:∀t∈ts,Srt t){m:Nat}(m2:2<=m){c:List Str}(sc:Srt c):Ap (lkC ts c) m↔∃s∈ch ts m,coG s=some c:=by
 rw[Ap.sub (dQg nd es)];have e:0<cwc ts m c↔∃s∈ch ts m,coG s=some c:=by
  unfold cwc;rw[ic];exact⟨λ⟨s,h⟩=>⟨s,(av.mp h).1,of_decide_eq_true (av.mp h).2⟩,λ⟨s,h1,h2⟩=>⟨s,av.mpr ⟨h1,decide_eq_true h2⟩⟩⟩
 rw[<- e,cZc nd es m2 sc,<- cZa,ic];constructor
 ·rintro⟨s,sub,rfl,j⟩;refine⟨s,av.mpr ⟨mem_ch sub,?_⟩⟩;rw[aY,b7];exact⟨λ_ _=>rfl,pwB_iff.mpr (j.imp λ{a b} (h:mts a b=false)=>by rw[aZx,h];rfl)⟩
 ·rintro⟨s,h⟩;obtain⟨h1,h2⟩:=av.mp h;rw[aY] at h2;obtain⟨l,sub⟩:=ch_mem h1;exact⟨s,sub,l,(pwB_iff.mp h2.2).imp λ{a b} h=>by rw[aZx];simpa using h⟩
theorem eXc{ts:List (List Str)}{one:List Str}{k:Nat}(nd:ts.Nodup)(es:∀t∈ts,Srt t)(ho:one∈ts)(k1:1<=k) :
  (∃s∈ch ts (k+1),one∈s/\(coG s).isSome=true)↔∃o∈wo ts [one],Ap (wor (lkC (wo ts [one]) (meG one o)) (wo one (meG one o))) k:=by
 have mo:∀o,o∈wo ts [one]↔o∈ts/\o≠one:=λo=>by rw[mem_wo,aH]
 have so:=es one ho;have O:∀c x,x∈wor (lkC (wo ts [one]) c) (wo one c)↔(∃o,o∈ts/\o≠one/\has o c=true/\wo o c=x)/\mts x (wo one c)=false:=λc x=>by
  have ew:∀(L:List (List Str)) (w:List Str),x∈wor L w↔x∈L/\mts x w=false:=λL w=>by unfold wor;rw[av];simp
  rw[ew];unfold lkC;rw[mem_srT,aQ];constructor
  ·rintro⟨⟨o,h,e⟩,h2⟩;obtain⟨h3,h4⟩:=av.mp h;refine⟨⟨o,((mo o).mp h3).1,((mo o).mp h3).2,h4,e⟩,?_⟩;exact h2
  ·rintro⟨⟨o,h1,h2,h3,e⟩,h4⟩;refine⟨⟨o,av.mpr ⟨(mo o).mpr ⟨h1,h2⟩,h3⟩,e⟩,?_⟩;exact h4
 constructor
 ·rintro⟨s,hs,h1,hco⟩;obtain⟨c,D⟩:=cj.mp hco;obtain⟨sl,sub⟩:=ch_mem hs;have sn:=nd.sublist sub;have ss:∀o∈s,Srt o:=λo h=>es o (sub.subset h);have fm:=(cX0 (by omega) sn ss).mp D
  have al:=bXz (λa J b G h=>by rw[<- h];exact dQ9 (ss b G) (ss a J)) fm
  have el:(s.erase one).length=k:=by rw[gp h1,sl];rfl
  have em:∀x,x∈s.erase one↔x≠one/\x∈s:=λx=>fo sn;obtain⟨o,ho1⟩:=List.exists_mem_of_length_pos (show 0<(s.erase one).length by omega)
  obtain⟨o1,o2⟩:=(em o).mp ho1;have ec:meG one o=c:=al one h1 o o2 (cA o1);have sc:Srt c:=by rw[<- ec];exact so.filter _
  have j:∀x∈s,has x c=true:=λx Y=>by
   by_cases e:x=one
   ·subst e;rw[<- ec];exact has_iff.mpr λn hn=>(mem_me.mp hn).1
   ·have:=al x Y one h1 e
    rw[<- this];exact has_iff.mpr λn hn=>(mem_me.mp hn).1
  refine⟨o,(mo o).mpr ⟨sub.subset o2,o1⟩,?_⟩;rw[ec];refine⟨(s.erase one).map λx=>wo x c,?_,λx Y=>?_,by rw[ah,el],?_⟩
  ·refine bH.mpr (aJ (λ{a b} J G n e=>n ?_) (sn.erase one));obtain⟨_,a2⟩:=(em a).mp J;obtain⟨_,U⟩:=(em b).mp G;refine(ss a a2).ext (ss b U) λx=>?_;have key:∀x,x∈wo a c↔x∈wo b c:=λx=>by rw[e]
   by_cases D:x∈c
   ·exact⟨λ_=>has_iff.mp (j b U) x D,λ_=>has_iff.mp (j a a2) x D⟩
   ·exact⟨λh=>(mem_wo.mp ((key x).mp (mem_wo.mpr ⟨h,D⟩))).1,λh=>(mem_wo.mp ((key x).mpr (mem_wo.mpr ⟨h,D⟩))).1⟩
  ·obtain⟨y,hy,rfl⟩:=aQ.mp Y;obtain⟨y1,y2⟩:=(em y).mp hy;exact(O c _).mpr ⟨⟨y,sub.subset y2,y1,j y y2,rfl⟩,(bQi so sc (j one h1) (j y y2)).mp (al one h1 y y2 (cA y1))⟩
  ·refine bH.mpr (aJ (λ{a b} J G h=>?_) (fm.sublist i4));obtain⟨_,a2⟩:=(em a).mp J;obtain⟨_,U⟩:=(em b).mp G;rw[aZx];exact(bQi (ss a a2) sc (j a a2) (j b U)).mp h
 ·rintro⟨o,ho1,s',sn,sub,hl,pw⟩;obtain⟨o1,o2⟩:=(mo o).mp ho1;obtain⟨c,D⟩:∃c,meG one o=c:=⟨_,rfl⟩;rw[D] at sub;have sc:Srt c:=by rw[<- D];exact so.filter _
  have h1c:has one c=true:=by rw[<- D];exact has_iff.mpr λn hn=>(mem_me.mp hn).1
  have al:=bXz (λa _ b _ h=>by rw[aZx];exact h) pw
  let p:List Str->Bool:=λx=>decide (x=one)||(has x c&&decide (wo x c∈s'))
  let q:List Str->Bool:=λx=>decide (x≠one)&&(has x c&&decide (wo x c∈s'))
  have hp:∀x,x∈ts.filter p↔x∈ts/\(x=one\/(has x c=true/\wo x c∈s')):=λx=>by rw[av];simp[p]
  have Z:∀x,x∈ts.filter q↔x∈ts/\x≠one/\has x c=true/\wo x c∈s':=λx=>by rw[av];simp[q]
  have inj:∀a∈ts.filter q,∀b∈ts.filter q,wo a c=wo b c->a=b:=λa J b G e=>by
   obtain⟨a1,_,a2,_⟩:=(Z a).mp J;obtain⟨b1,_,U,_⟩:=(Z b).mp G;refine(es a a1).ext (es b b1) λx=>?_;have key:∀x,x∈wo a c↔x∈wo b c:=λx=>by rw[e]
   by_cases D:x∈c
   ·exact⟨λ_=>has_iff.mp U x D,λ_=>has_iff.mp a2 x D⟩
   ·exact⟨λh=>(mem_wo.mp ((key x).mp (mem_wo.mpr ⟨h,D⟩))).1,λh=>(mem_wo.mp ((key x).mpr (mem_wo.mpr ⟨h,D⟩))).1⟩
  have pm:((ts.filter q).map λx=>wo x c).Perm s':=(cM (bH.mpr (aJ (λ{a b} J G n e=>n (inj a J b G e)) (nd.filter _))) sn).mpr λx=>by
   rw[aQ];constructor
   ·rintro⟨y,hy,rfl⟩;exact((Z y).mp hy).2.2.2
   ·intro Y;obtain⟨⟨y,y1,y2,y3,rfl⟩,_⟩:=(O c x).mp (sub x Y);exact⟨y,(Z y).mpr ⟨y1,y2,y3,Y⟩,rfl⟩
  have lq:(ts.filter q).length=k:=by rw[<- hl,<- pm.length_eq,ah]
  have pq:(ts.filter p).Perm (one::ts.filter q):=(cM (nd.filter _) (bE.mpr ⟨λz=>((Z _).mp z).2.1 rfl,nd.filter _⟩)).mpr λx=>by
   rw[hp,aD,Z];constructor
   ·rintro⟨h1,h2|⟨h2,h3⟩⟩
    ·exact .inl h2
    ·by_cases e:x=one
     ·exact .inl e
     ·exact .inr ⟨h1,e,h2,h3⟩
   ·rintro(rfl|⟨h1,_,h2,h3⟩)
    ·exact⟨ho,.inl rfl⟩
    ·exact⟨h1,.inr ⟨h2,h3⟩⟩
  have lp:(ts.filter p).length=k+1:=by rw[pq.length_eq,aK,lq]
  have B:(ts.filter p).Sublist ts:=fu;refine⟨ts.filter p,by have:=mem_ch B;rwa [lp] at this,(hp one).mpr ⟨ho,.inl rfl⟩,?_⟩
  rw[(cX0 (c:=c) (by omega) (nd.filter _) λx Y=>es x (B.subset Y)).mpr]
  ·rfl
  have hh:∀x∈ts.filter p,has x c=true:=λx Y=>by
   rcases((hp x).mp Y).2 with rfl|h
   ·exact h1c
   ·exact h.1
  refine aJ (λ{a b} J G n=>?_) (nd.filter _);refine(bQi (es a (B.subset J)) sc (hh a J) (hh b G)).mpr ?_;rcases((hp a).mp J).2 with rfl|⟨_,a2⟩
  ·rcases((hp b).mp G).2 with rfl|⟨_,U⟩
   ·exact absurd rfl n
   ·exact((O c _).mp (sub _ U)).2
  ·rcases((hp b).mp G).2 with rfl|⟨_,U⟩
   ·rw[aZx];exact((O c _).mp (sub _ a2)).2
   ·by_cases e1:a=one
    ·subst e1;exact((O c _).mp (sub _ U)).2
    by_cases e2:b=one
    ·subst e2;rw[aZx];exact((O c _).mp (sub _ a2)).2
    refine al _ U _ a2 λe=>n (inj a ((Z a).mpr ⟨B.subset J,e1,hh a J,a2⟩) b ((Z b).mpr ⟨B.subset G,e2,hh b G,U⟩) e.symm)
theorem dXb{ts:List (List Str)}(nd:ts.Nodup)(hs:∀t∈ts,Srt t){m:Nat}(m2:2<=m){s:List (List Str)}(h:s∈ch ts m){c:List Str}(e:coG s=some c):c∈mets ts:=by
 obtain⟨hl,sub⟩:=ch_mem h;have f:=(cX0 (by omega) (sub.nodup nd) λo q=>hs o (sub.subset q)).mp e
 match s,hl,sub,f with
 |a::b::r,_,sub,f =>
  have j:meG a b=c:=(aX.mp f).1 b ak;refine aQ.mpr ⟨[a,b],mem_ch (s:=[a,b]) (List.Sublist.trans (kG a (kG b (List.nil_sublist r))) sub),j⟩
 |[],hl,_,_=>exact absurd hl (by show ¬ 0=m;omega)
 |[a],hl,_,_=>exact absurd hl (by show ¬ 1=m;omega)
structure Tree(m:Nat)(C:List Str)(b:Nat->Str)(l:Nat->Nat->Str):Prop where
 cn:C.Nodup
 bc:∀k,k<m->b k∉C
 lc:∀k j,k<m->j<m->l k j∉C
 bb:∀k k',k<m->k'<m->b k=b k'->k=k'
 lb:∀k j k',k<m->j<m->k'<m->l k j≠b k'
 ll:∀k j k' j',k<m->j<m->k'<m->j'<m->l k j=l k' j'->k=k'/\j=j'
def rw7(C:List Str)(b:Nat->Str)(l:Nat->Nat->Str)(k j:Nat):List Str:=srS (C++[b k,l k j])
def br7(C:List Str)(b:Nat->Str)(k:Nat):List Str:=srS (C++[b k])
def co7(C:List Str):List Str:=srS C
theorem mem_rw7{C:List Str}{b:Nat->Str}{l:Nat->Nat->Str}{k j:Nat}{x:Str}:x∈rw7 C b l k j↔x∈C\/x=b k\/x=l k j:=by unfold rw7;rw[mem_srS];simp
theorem mem_br7{C:List Str}{b:Nat->Str}{k:Nat}{x:Str}:x∈br7 C b k↔x∈C\/x=b k:=by unfold br7;rw[mem_srS];simp
theorem mem_co7{C:List Str}{x:Str}:x∈co7 C↔x∈C:=by unfold co7;rw[mem_srS]
theorem sel7{ts:List (List Str)}{c:List Str}(nd:ts.Nodup)(es:∀t∈ts,Srt t){L:List (List Str)}(hL:L.Nodup)(sub:∀x∈L,x∈ts)(h2:2<=L.length)(pw:∀a∈L,∀b∈L,a≠b->meG a b=c):∃s∈ch ts L.length,coG s=some c/\∀x∈L,x∈s:=by
 have pm:(ts.filter λx=>decide (x∈L)).Perm L:=(cM (nd.filter _) hL).mpr λx=>by
  rw[av];exact⟨λh=>of_decide_eq_true h.2,λh=>⟨sub x h,decide_eq_true h⟩⟩
 have q:(ts.filter λx=>decide (x∈L)).Sublist ts:=fu;refine⟨_,by have:=mem_ch q;rwa [pm.length_eq] at this,?_,λx j=>pm.mem_iff.mpr j⟩
 refine(cX0 (by rw[pm.length_eq];exact h2) (nd.filter _) λx j=>es x (q.subset j)).mpr (aJ (λ{a b} B z n=>pw a (pm.mem_iff.mp B) b (pm.mem_iff.mp z) n) (nd.filter _))
theorem flw7{ts s:List (List Str)}{c:List Str}{m:Nat}(nd:ts.Nodup)(es:∀t∈ts,Srt t)(m2:2<=m)(h:s∈ch ts m)(hc:coG s=some c):s.Nodup/\s.length=m/\(∀x∈s,x∈ts)/\∀a∈s,∀b∈s,a≠b->meG a b=c:=by
 obtain⟨sl,sub⟩:=ch_mem h;have sn:=nd.sublist sub;have ss:∀o∈s,Srt o:=λo q=>es o (sub.subset q);exact⟨sn,sl,λx j=>sub.subset j,bXz (λa B b z h=>by rw[<- h];exact dQ9 (ss b z) (ss a B)) ((cX0 (by omega) sn ss).mp hc)⟩
theorem dQh{ts:List (List Str)}{c t:List Str}:t∈lkC ts c↔∃o∈ts,has o c=true/\wo o c=t:=by
 unfold lkC;rw[mem_srT,aQ];exact⟨λ⟨o,h,e⟩=>⟨o,(av.mp h).1,(av.mp h).2,e⟩,λ⟨o,h1,h2,e⟩=>⟨o,av.mpr ⟨h1,h2⟩,e⟩⟩
def pr7(m:Nat):List (Nat×Nat):=(aI m).flatMap λk=>(aI m).map λj=>(k,j)
theorem mem_pr7{m k j:Nat}:(k,j)∈pr7 m↔k<m/\j<m:=by unfold pr7;simp
section
variable{m:Nat}{C:List Str}{b:Nat->Str}{l:Nat->Nat->Str}(T:Tree m C b l)
include T
theorem Tree.co:Srt (co7 C):=aJ8 T.cn
theorem Tree.br{k:Nat}(hk:k<m):Srt (br7 C b k):=aJ8 (bV.mpr ⟨T.cn,by simp,λx q y j e=>T.bc k hk (by rw[<- aH.mp j,<- e];exact q)⟩)
theorem Tree.rw{k j:Nat}(hk:k < m)(hj:j < m):Srt (rw7 C b l k j):=aJ8 (bV.mpr ⟨T.cn,by
 rw[bE,aH];exact⟨λe=>T.lb k j k hk hj hk e.symm,by simp⟩,λx z y q e=>by
 subst e;simp only[aD,eP,or_false] at q;rcases q with rfl|rfl
 ·exact T.bc k hk z
 ·exact T.lc k j hk hj z⟩)
theorem Tree.inj{k j k' j':Nat}(hk:k<m)(hj:j<m)(hk':k'<m)(hj':j'<m)(e:rw7 C b l k j=rw7 C b l k' j'):k=k'/\j=j':=by
 have h:l k j∈rw7 C b l k' j':=by rw[<- e,mem_rw7];exact .inr (.inr rfl)
 rcases mem_rw7.mp h with h|h|h
 ·exact absurd h (T.lc k j hk hj)
 ·exact absurd h (T.lb k j k' hk hj hk')
 ·exact T.ll k j k' j' hk hj hk' hj' h
theorem Tree.binj{k k':Nat}(hk:k<m)(hk':k'<m)(e:br7 C b k=br7 C b k'):k=k':=by
 have h:b k∈br7 C b k':=by rw[<- e,mem_br7];exact .inr rfl
 rcases mem_br7.mp h with h|h
 ·exact absurd h (T.bc k hk)
 ·exact T.bb k k' hk hk' h
theorem Tree.bco{k:Nat}(hk:k<m)(e:br7 C b k=co7 C):False:=by
 have h:b k∈co7 C:=by rw[<- e,mem_br7];exact .inr rfl
 exact T.bc k hk (mem_co7.mp h)
theorem Tree.m1{k j j':Nat}(hk:k<m)(hj:j<m)(hj':j'<m)(n:j≠j'):meG (rw7 C b l k j) (rw7 C b l k j')=br7 C b k:=by
 refine Srt.ext ((T.rw hk hj).filter _) (T.br hk) λx=>?_;rw[mem_me,mem_rw7,mem_rw7,mem_br7];constructor
 ·rintro⟨h|h|h,h'⟩
  ·exact .inl h
  ·exact .inr h
  ·subst h;rcases h' with h'|h'|h'
   ·exact .inl h'
   ·exact .inr h'
   ·exact absurd (T.ll k j k j' hk hj hk hj' h').2 n
 ·rintro(h|h)
  ·exact⟨.inl h,.inl h⟩
  ·exact⟨.inr (.inl h),.inr (.inl h)⟩
theorem Tree.m2{k j k' j':Nat}(hk:k<m)(hj:j<m)(hk':k'<m)(hj':j'<m)(n:k≠k'):meG (rw7 C b l k j) (rw7 C b l k' j')=co7 C:=by
 refine Srt.ext ((T.rw hk hj).filter _) T.co λx=>?_;rw[mem_me,mem_rw7,mem_rw7,mem_co7];constructor
 ·rintro⟨h|h|h,h'⟩
  ·exact h
  ·subst h;rcases h' with h'|h'|h'
   ·exact h'
   ·exact absurd (T.bb k k' hk hk' h') n
   ·exact absurd h'.symm (T.lb k' j' k hk' hj' hk)
  ·subst h;rcases h' with h'|h'|h'
   ·exact h'
   ·exact absurd h' (T.lb k j k' hk hj hk')
   ·exact absurd (T.ll k j k' j' hk hj hk' hj' h').1 n
 ·exact λh=>⟨.inl h,.inl h⟩
theorem Tree.m3{k k':Nat}(hk:k<m)(hk':k'<m)(n:k≠k'):meG (br7 C b k) (br7 C b k')=co7 C:=by
 refine Srt.ext ((T.br hk).filter _) T.co λx=>?_;rw[mem_me,mem_br7,mem_br7,mem_co7];constructor
 ·rintro⟨h|h,h'⟩
  ·exact h
  ·subst h;rcases h' with h'|h'
   ·exact h'
   ·exact absurd (T.bb k k' hk hk' h') n
 ·exact λh=>⟨.inl h,.inl h⟩
theorem Tree.m4{k:Nat}(hk:k<m):meG (br7 C b k) (co7 C)=co7 C/\meG (co7 C) (br7 C b k)=co7 C:=by
 refine⟨Srt.ext ((T.br hk).filter _) T.co λx=>?_,Srt.ext (T.co.filter _) T.co λx=>?_⟩ <;> rw[mem_me,mem_br7,mem_co7]
 ·exact⟨λh=>h.2,λh=>⟨.inl h,h⟩⟩
 ·exact⟨λh=>h.1,λh=>⟨h,.inl h⟩⟩
theorem Tree.lv1(m2:2<=m){P:Nat->Nat->Prop}{ts:List (List Str)}(nd:ts.Nodup)(ht:∀t,t∈ts↔∃k j,k<m/\j<m/\P k j/\t=rw7 C b l k j)(hp:∀k,k<m->∃j,j<m/\P k j)(r:List Str) :
  ((∃s∈ch ts m,coG s=some r)\/(r∈ts/\¬ ∃s∈ch ts m,r∈s/\(coG s).isSome=true))↔r=co7 C\/∃k,k<m/\(∀j,j<m->P k j)/\r=br7 C b k:=by
 have es:∀t∈ts,Srt t:=λt h=>by obtain⟨k,j,q,G,_,rfl⟩:=(ht t).mp h;exact T.rw q G
 have O:∀k j,k<m->j<m->P k j->∃s∈ch ts m,coG s=some (co7 C)/\rw7 C b l k j∈s:=λk j q G Z=>by
  have hf:∀B,∃j',B<m->j'<m/\P B j'/\(B=k->j'=j):=λB=>by
   by_cases e:B=k
   ·exact⟨j,λ_=>⟨G,e▸Z,λ_=>rfl⟩⟩
   ·by_cases h:B<m
    ·obtain⟨j',h1,h2⟩:=hp B h;exact⟨j',λ_=>⟨h1,h2,λz=>absurd z e⟩⟩
    ·exact⟨0,λz=>absurd z h⟩
  obtain⟨f,hf⟩:=Classical.axiomOfChoice hf;have hL:((aI m).map λB=>rw7 C b l B (f B)).Nodup:=bH.mpr (aJ (λ{x y} J Y n e=>n (by
   have h1:=ax.mp J;have h2:=ax.mp Y;exact(T.inj h1 (hf x h1).1 h2 (hf y h2).1 e).1)) dq)
  obtain⟨s,h1,h2,h3⟩:=sel7 (c:=co7 C) nd es hL (λx J=>by
   obtain⟨B,h,rfl⟩:=aQ.mp J;have h1:=ax.mp h;exact(ht _).mpr ⟨B,f B,h1,(hf B h1).1,(hf B h1).2.1,rfl⟩) (by rw[ah,bF];exact m2) λx J y Y n=>by
   obtain⟨k1,h1,rfl⟩:=aQ.mp J;obtain⟨k2,h2,rfl⟩:=aQ.mp Y;have h1:=ax.mp h1;have h2:=ax.mp h2;exact T.m2 h1 (hf k1 h1).1 h2 (hf k2 h2).1 λe=>n (by rw[e])
  rw[ah,bF] at h1;refine⟨s,h1,h2,h3 _ (aQ.mpr ⟨k,ax.mpr q,?_⟩)⟩;rw[(hf k q).2.2 rfl]
 constructor
 ·rintro(⟨s,h,hc⟩|⟨h,no⟩)
  ·obtain⟨sn,sl,sub,al⟩:=flw7 nd es m2 h hc
   match s,sl with
   |[],sl=>exact absurd sl (by simp;omega)
   |[x],sl=>exact absurd sl (by simp;omega)
   |x::y::s',sl =>
    have nxy:x≠y:=λe=>(bE.mp sn).1 (e▸ak);obtain⟨k,j,q,G,Z,ex⟩:=(ht x).mp (sub x ak);obtain⟨k2,j2,hk2,hj2,hP2,ey⟩:=(ht y).mp (sub y (by simp))
    have e1:=al x ak y (by simp) nxy
    by_cases e:k=k2
    ·subst e;have nj:j≠j2:=λe=>nxy (by rw[ex,ey,e])
     rw[ex,ey,T.m1 q G hj2 nj] at e1
     by_cases D:∀z∈x::y::s',∃j,j<m/\z=rw7 C b l k j
     ·refine .inr ⟨k,q,λj3 L=>?_,e1.symm⟩;have sub2:∀z∈x::y::s',z∈((aI m).filter λj=>decide (rw7 C b l k j∈x::y::s')).map (rw7 C b l k):=λz U=>by
       obtain⟨j4,h1,h2⟩:=D z U;exact aQ.mpr ⟨j4,av.mpr ⟨ax.mpr h1,decide_eq_true (h2▸U)⟩,h2.symm⟩
      have l1:=sn.length_le_of_subset sub2;rw[ah,sl] at l1;have l2:((aI m).filter λj=>decide (rw7 C b l k j∈x::y::s')).length=(aI m).length:=Nat.le_antisymm (bf _ _) (by rw[bF];exact l1)
      have hin:=of_decide_eq_true (List.length_filter_eq_length_iff.mp l2 j3 (ax.mpr L));obtain⟨k5,j5,h5,h6,h7,h8⟩:=(ht _).mp (sub _ hin);obtain⟨rfl,rfl⟩:=T.inj q L h5 h6 h8;exact h7
     ·have:∃z∈x::y::s',¬ ∃j,j<m/\z=rw7 C b l k j:=aR λw=>D λz U=>aR λv=>w ⟨z,U,v⟩
      obtain⟨z,U,hno⟩:=this;obtain⟨k3,j3,hk3,L,_,ez⟩:=(ht z).mp (sub z U);have nk:k≠k3:=λe=>hno ⟨j3,L,by rw[ez,e]⟩
      have:=al x ak z U λe=>hno ⟨j,G,by rw[<- e,ex]⟩
      rw[ex,ez,T.m2 q G hk3 L nk] at this;exact .inl this.symm
    ·rw[ex,ey,T.m2 q G hk2 hj2 e] at e1;exact .inl e1.symm
  ·obtain⟨k,j,q,G,Z,rfl⟩:=(ht r).mp h;obtain⟨s,h1,h2,h3⟩:=O k j q G Z;exact absurd ⟨s,h1,h3,by rw[h2];rfl⟩ no
 ·rintro(rfl|⟨k,q,D,rfl⟩)
  ·obtain⟨j,G,Z⟩:=hp 0 (by omega)
   obtain⟨s,h1,h2,_⟩:=O 0 j (by omega) G Z
   exact .inl ⟨s,h1,h2⟩
  ·have hL:((aI m).map λj=>rw7 C b l k j).Nodup:=bH.mpr (aJ (λ{x y} J Y n e=>n (T.inj q (ax.mp J) q (ax.mp Y) e).2) dq);obtain⟨s,h1,h2,_⟩:=sel7 (c:=br7 C b k) nd es hL (λx J=>by
    obtain⟨j,h,rfl⟩:=aQ.mp J;have h1:=ax.mp h;exact(ht _).mpr ⟨k,j,q,h1,D j h1,rfl⟩) (by rw[ah,bF];exact m2) λx J y Y n=>by
    obtain⟨j1,h1,rfl⟩:=aQ.mp J;obtain⟨j2,h2,rfl⟩:=aQ.mp Y;exact T.m1 q (ax.mp h1) (ax.mp h2) λe=>n (by rw[e])
   rw[ah,bF] at h1;exact .inl ⟨s,h1,h2⟩
theorem Tree.lv2(m2:2<=m){us:List (List Str)}(nd:us.Nodup)(hu:∀t,t∈us↔t=co7 C\/∃k,k<m/\t=br7 C b k)(r:List Str) :
  ((∃s∈ch us m,coG s=some r)\/(r∈us/\¬ ∃s∈ch us m,r∈s/\(coG s).isSome=true))↔r=co7 C:=by
 have es:∀t∈us,Srt t:=λt h=>by
  rcases(hu t).mp h with rfl|⟨k,G,rfl⟩
  ·exact T.co
  ·exact T.br G
 have meet:∀x∈us,∀y∈us,x≠y->meG x y=co7 C:=λx j y q n=>by
  rcases(hu x).mp j with rfl|⟨k,G,rfl⟩
  ·rcases(hu y).mp q with rfl|⟨L,D,rfl⟩
   ·exact absurd rfl n
   ·exact(T.m4 D).2
  ·rcases(hu y).mp q with rfl|⟨L,D,rfl⟩
   ·exact(T.m4 G).1
   ·exact T.m3 G D λe=>n (by rw[e])
 have Y:((aI m).map λk=>br7 C b k).Nodup:=bH.mpr (aJ (λ{x y} j q n e=>n (T.binj (ax.mp j) (ax.mp q) e)) dq);have bin:∀x∈(aI m).map λk=>br7 C b k,x∈us:=λx j=>by
  obtain⟨k,h,rfl⟩:=aQ.mp j;exact(hu _).mpr (.inr ⟨k,ax.mp h,rfl⟩)
 obtain⟨s0,h1,h2,Z⟩:=sel7 (c:=co7 C) nd es Y bin (by rw[ah,bF];exact m2) λx j y q n=>meet x (bin x j) y (bin y q) n
 rw[ah,bF] at h1;constructor
 ·rintro(⟨s,h,O⟩|⟨h,no⟩)
  ·obtain⟨sn,sl,sub,al⟩:=flw7 nd es m2 h O
   match s,sl with
   |[],sl=>exact absurd sl (by simp;omega)
   |[x],sl=>exact absurd sl (by simp;omega)
   |x::y::s',sl =>
    have J:x≠y:=λe=>(bE.mp sn).1 (e▸ak);exact(al x ak y (by simp) J).symm.trans (meet x (sub x ak) y (sub y (by simp)) J)
  ·refine absurd ?_ no;rcases(hu r).mp h with rfl|⟨k,G,rfl⟩
   ·have U:(co7 C::(aI (m - 1)).map λk=>br7 C b k).Nodup:=bE.mpr ⟨λz=>by
     obtain⟨k,h,e⟩:=aQ.mp z;exact T.bco (by have:=ax.mp h;omega) e,bH.mpr (aJ (λ{x y} j q n e=>n (T.binj (by have:=ax.mp j;omega) (by have:=ax.mp q;omega) e)) dq)⟩
    have B:∀x∈co7 C::(aI (m-1)).map λk=>br7 C b k,x∈us:=λx j=>by
     rcases aD.mp j with rfl|j
     ·exact h
     ·obtain⟨k,h,rfl⟩:=aQ.mp j;exact(hu _).mpr (.inr ⟨k,by have:=ax.mp h;omega,rfl⟩)
    have ll:(co7 C::(aI (m-1)).map λk=>br7 C b k).length=m:=by rw[aK,ah,bF];omega
    obtain⟨s,a1,a2,a3⟩:=sel7 (c:=co7 C) nd es U B (by omega) λx j y q n=>meet x (B x j) y (B y q) n
    rw[ll] at a1;exact⟨s,a1,a3 _ ak,by rw[a2];rfl⟩
   ·exact⟨s0,h1,Z _ (aQ.mpr ⟨k,ax.mpr G,rfl⟩),by rw[h2];rfl⟩
 ·rintro rfl;exact .inl ⟨s0,h1,h2⟩
theorem Tree.cnt1(m2:2<=m)(m3:m<=3){ts:List (List Str)}(nd:ts.Nodup)(ht:∀t,t∈ts↔∃k j,k<m/\j<m/\t=rw7 C b l k j){at_:Nat}(ha:at_<m):cwc ts m (br7 C b at_)=1:=by
 have es:∀t∈ts,Srt t:=λt h=>by obtain⟨k,j,J,q,rfl⟩:=(ht t).mp h;exact T.rw J q
 have D:∀j,j<m->wo (rw7 C b l at_ j) (br7 C b at_)=[l at_ j]:=λj q=>by
  refine Srt.ext ((T.rw ha q).filter _) (bB ..) λx=>?_;rw[mem_wo,mem_rw7,mem_br7,aH];constructor
  ·rintro⟨h|h|h,n⟩
   ·exact absurd (.inl h) n
   ·exact absurd (.inr h) n
   ·exact h
  ·rintro rfl;exact⟨.inr (.inr rfl),λz=>z.elim (T.lc at_ j ha q) (T.lb at_ j at_ ha q ha)⟩
 have pm:(lkC ts (br7 C b at_)).Perm ((aI m).map λj=>[l at_ j]):=(cM (dQg nd es) (bH.mpr (aJ (λ{x y} B G n e=>n (T.ll at_ x at_ y ha (ax.mp B) ha (ax.mp G) (List.cons.inj e).1).2) dq))).mpr λt=>by
  rw[dQh,aQ];constructor
  ·rintro⟨o,h1,h2,rfl⟩;obtain⟨k,j,J,q,rfl⟩:=(ht o).mp h1
   have:b at_∈rw7 C b l k j:=has_iff.mp h2 _ (mem_br7.mpr (.inr rfl))
   rcases mem_rw7.mp this with h|h|h
   ·exact absurd h (T.bc at_ ha)
   ·obtain rfl:=T.bb at_ k ha J h;exact⟨j,ax.mpr q,(D j q).symm⟩
   ·exact absurd h.symm (T.lb k j at_ J q ha)
  ·rintro⟨j,q,rfl⟩;have q:=ax.mp q;exact⟨_,(ht _).mpr ⟨at_,j,ha,q,rfl⟩,has_iff.mpr λx B=>mem_rw7.mpr ((mem_br7.mp B).imp id .inl),D j q⟩
 rw[cZc nd es m2 (T.br ha),bZv (λa b=>by rw[aZx]) pm,bQg,aZq (R':=λa b=>decide (a≠b)) (p':=λ_=>true) _ _ _ (λ_ _=>rfl) λx B y G _ _=>?_]
 ·have h:m=2\/m=3:=by omega
  rcases h with rfl|rfl <;> decide +kernel
 ·rw[c5,cN,<- ga,mts_iff,decide_eq_true_iff];refine not_congr ⟨?_,?_⟩
  ·rintro⟨n,O,L⟩
   have:=aH.mp O
   have:=aH.mp L
   subst n
   first
    |exact(T.ll at_ x at_ y ha (ax.mp B) ha (ax.mp G) (by assumption)).2
    |exact(T.ll at_ x at_ y ha (ax.mp B) ha (ax.mp G) (Eq.symm (by assumption))).2
  ·rintro rfl;exact⟨_,aH.mpr rfl,aH.mpr rfl⟩
theorem Tree.cnt2(m2:2<=m)(m3:m<=3){ts:List (List Str)}(nd:ts.Nodup)(ht:∀t,t∈ts↔∃k j,k<m/\j<m/\t=rw7 C b l k j):cwc ts m (co7 C)=m^m:=by
 have es:∀t∈ts,Srt t:=λt h=>by obtain⟨k,j,B,D,rfl⟩:=(ht t).mp h;exact T.rw B D
 have nl:∀k j,k<m->j<m->b k≠l k j:=λk j B D e=>T.lb k j k B D B e.symm;have L:∀k j x,x∈srS [b k,l k j]↔x=b k\/x=l k j:=λk j x=>by rw[mem_srS];simp
 have O:∀k j,k<m->j<m->wo (rw7 C b l k j) (co7 C)=srS [b k,l k j]:=λk j B D=>by
  refine Srt.ext ((T.rw B D).filter _) (aJ8 (by simp[nl k j B D])) λx=>?_
  rw[mem_wo,mem_rw7,mem_co7,L];constructor
  ·rintro⟨h|h,n⟩
   ·exact absurd h n
   ·exact h
  ·intro h;refine⟨.inr h,λz=>?_⟩;rcases h with rfl|rfl
   ·exact T.bc k B z
   ·exact T.lc k j B D z
 have inj:∀p∈pr7 m,∀q∈pr7 m,srS [b p.1,l p.1 p.2]=srS [b q.1,l q.1 q.2]->p=q:=λp hp q hq e=>by
  obtain⟨p1,p2⟩:=mem_pr7.mp (show(p.1,p.2)∈pr7 m from hp)
  obtain⟨q1,q2⟩:=mem_pr7.mp (show(q.1,q.2)∈pr7 m from hq)
  have h:l p.1 p.2∈srS [b q.1,l q.1 q.2]:=by rw[<- e,L];exact .inr rfl
  rcases(L _ _ _).mp h with h|h
  ·exact absurd h (T.lb _ _ _ p1 p2 q1)
  ·obtain⟨e1,e2⟩:=T.ll _ _ _ _ p1 p2 q1 q2 h;exact Prod.ext e1 e2
 have pnd:(pr7 m).Nodup:=by
  have h:m=2\/m=3:=by omega
  rcases h with rfl|rfl <;> decide +kernel
 have pm:(lkC ts (co7 C)).Perm ((pr7 m).map λp=>srS [b p.1,l p.1 p.2]):=(cM (dQg nd es) (bH.mpr (aJ (λ{x y} U hy n e=>n (inj x U y hy e)) pnd))).mpr λt=>by
  rw[dQh,aQ];constructor
  ·rintro⟨o,h1,h2,rfl⟩;obtain⟨k,j,B,D,rfl⟩:=(ht o).mp h1;exact⟨(k,j),mem_pr7.mpr ⟨B,D⟩,(O k j B D).symm⟩
  ·rintro⟨⟨k,j⟩,hp,rfl⟩;obtain⟨B,D⟩:=mem_pr7.mp hp;exact⟨_,(ht _).mpr ⟨k,j,B,D,rfl⟩,has_iff.mpr λx U=>mem_rw7.mpr (.inl (mem_co7.mp U)),O k j B D⟩
 rw[cZc nd es m2 T.co,bZv (λa b=>by rw[aZx]) pm,bQg,aZq (R':=λa b=>decide (a.1≠b.1)) (p':=λ_=>true) _ _ _ (λ_ _=>rfl) λx U y hy _ _=>?_]
 ·have h:m=2\/m=3:=by omega
  rcases h with rfl|rfl <;> decide +kernel
 ·obtain⟨J,Z⟩:=mem_pr7.mp (show(x.1,x.2)∈pr7 m from U)
  obtain⟨G,Y⟩:=mem_pr7.mp (show(y.1,y.2)∈pr7 m from hy)
  rw[c5,cN,<- ga,mts_iff,decide_eq_true_iff];refine not_congr ⟨?_,λe=>?_⟩
  ·rintro⟨n,n1,n2⟩;rw[L] at n1 n2;rcases n1 with rfl|rfl <;> rcases n2 with h|h
   ·first|exact T.bb _ _ J G h|exact(T.bb _ _ G J h).symm
   ·first|exact absurd h.symm (T.lb _ _ _ J Z G)|exact absurd h.symm (T.lb _ _ _ G Y J)
   ·first|exact absurd h (T.lb _ _ _ J Z G)|exact absurd h (T.lb _ _ _ G Y J)
   ·first|exact(T.ll _ _ _ _ J Z G Y h).1|exact(T.ll _ _ _ _ G Y J Z h).1.symm
  ·exact⟨b x.1,(L _ _ _).mpr (.inl (by rw[e])),(L _ _ _).mpr (.inl (by rw[e]))⟩
end
theorem aZ1{α:Type}{l:List α}{k:Nat}{z:α}(h:k<l.length):l.getD k z∈l/\l[k]?=some (l.getD k z):=by
 rw[ai,af h];exact⟨d0 h,rfl⟩
abbrev bT(B:List Str):Nat->Str:=λk=>B.getD k ⟨#[]⟩
abbrev lT(L:List (List Str)):Nat->Nat->Str:=λk j=>(L.getD k []).getD j ⟨#[]⟩
theorem eXd{m:Nat}{C B:List Str}{L:List (List Str)}(nd:(C++B++L.flatten).Nodup)(bl:B.length=m)(ll:L.length=m)(le:∀x∈L,x.length=m):Tree m C (bT B) (lT L):=by
 obtain⟨h1,h2,h3⟩:=bV.mp nd;obtain⟨h4,h5,h6⟩:=bV.mp h1;have bin:∀k,k<m->bT B k∈B:=λk q=>(aZ1 (by omega)).1
 have O:∀k,k<m->L.getD k []∈L:=λk q=>(aZ1 (by omega)).1
 have U:∀k j,k<m->j<m->lT L k j∈L.getD k []:=λk j q G=>(aZ1 (by rw[le _ (O k q)];exact G)).1
 have Y:∀k j,k<m->j<m->lT L k j∈L.flatten:=λk j q G=>f9.mpr ⟨_,O k q,U k j q G⟩;have J:=h2;unfold gy at J;rw[List.pairwise_flatten] at J;have inj:∀{l:List Str},l.Nodup->∀i j,i<l.length->j<l.length->l.getD i ⟨#[]⟩=l.getD j ⟨#[]⟩->i=j:=λ{l} nd i j hi G e=>by
  rw[ai,ai,af hi,af G] at e;exact(List.getElem_inj nd).mp e
 refine⟨h4,λk q h=>h6 _ h _ (bin k q) rfl,λk j q G h=>h3 _ (be _ h) _ (Y k j q G) rfl,λk k' q D e=>inj h5 k k' (by omega) (by omega) e,λk j k' q G D e=>h3 _ (a7 _ (bin k' D)) _ (Y k j q G) e.symm,λk j k' j' q G D hj' e=>?_⟩
 have ek:k=k':=by
  have pw:=bO.mp J.2;have g:∀k (h:k<m),L.getD k []=L[k]'(by omega):=λk h=>by rw[ai,af (by omega)];rfl
  have i1:=U k j q G;have Z:=U k' j' D hj';rw[g k q] at i1;rw[g k' D] at Z;rcases Nat.lt_trichotomy k k' with z|z|z
  ·exact absurd e (pw k k' (by omega) (by omega) z _ i1 _ Z)
  ·exact z
  ·exact absurd e.symm (pw k' k (by omega) (by omega) z _ Z _ i1)
 subst ek;have ln:=le _ (O k q);exact⟨rfl,inj (J.1 _ (O k q)) j j' (by omega) (by omega) e⟩
def rws(C B:List Str)(L:List (List Str))(i:Nat):List (List Str):=(aI i).flatMap λk=>(L.getD k []).map λx=>srS (C++[bT B k,x])
theorem bZz(C B:List Str)(L:List (List Str))(i:Nat):rws C B L (i+1)=rws C B L i++(L.getD i []).map λx=>srS (C++[bT B i,x]):=by
 unfold rws;rw[dQ,List.flatMap_append];show _++(_++[])=_;rw[cr]
theorem bX0{m:Nat}{C B:List Str}{L:List (List Str)}(ll:L.length=m)(le:∀x∈L,x.length=m):∀i,i<=m->(rws C B L i).length=m*i
 |0,_=>rfl
 |i+1,h=>by
  rw[bZz,ap,bX0 ll le i (by omega),ah,le _ (aZ1 (by omega)).1];rfl
theorem dQi{m:Nat}{C B:List Str}{L:List (List Str)}(ll:L.length=m)(le:∀x∈L,x.length=m){k j:Nat}(hj:j<m):∀i,i<=m->k<i->(rws C B L i)[m*k+j]?=some (rw7 C (bT B) (lT L) k j)
 |0,_,h=>absurd h (by omega)
 |i+1,hi,q=>by
  have li:=bX0 (C:=C) (B:=B) ll le i (by omega)
  rw[bZz]
  by_cases e:k=i
  ·subst e;rw[bY (by omega),li,Nat.add_sub_cancel_left,aL]
   have:=(aZ1 (l:=L.getD k []) (k:=j) (z:=(⟨#[]⟩:Str)) (by rw[le _ (aZ1 (by omega)).1];exact hj)).2
   rw[this];rfl
  ·have:m*k+m<=m*i:=by rw[<- Nat.mul_succ];exact Nat.mul_le_mul_left m (by omega)
   rw[db (by omega)]
   exact dQi ll le hj i (by omega) (by omega)
theorem eXe{m:Nat}{C B:List Str}{L:List (List Str)}(ll:L.length=m)(le:∀x∈L,x.length=m){t:List Str}:t∈rws C B L m↔∃k j,k<m/\j<m/\t=rw7 C (bT B) (lT L) k j:=by
 constructor
 ·intro h;unfold rws at h;obtain⟨k,q,h⟩:=List.mem_flatMap.mp h;obtain⟨x,G,rfl⟩:=aQ.mp h;have q:=ax.mp q;obtain⟨j,D,e⟩:=bh G;have ln:=le _ (aZ1 (l:=L) (k:=k) (z:=[]) (by omega)).1
  refine⟨k,j,q,by omega,?_⟩
  have:lT L k j=x:=by
   show(L.getD k []).getD j ⟨#[]⟩=x;rw[ai,af D];exact e
  unfold rw7;rw[this]
 ·rintro⟨k,j,q,D,rfl⟩;exact am (dQi ll le D m (Nat.le_refl _) q)
theorem fZz{m:Nat}{C B:List Str}{L:List (List Str)}(T:Tree m C (bT B) (lT L))(ll:L.length=m)(le:∀x∈L,x.length=m):(rws C B L m).Nodup:=by
 unfold rws gy;rw[List.pairwise_flatMap];have key:∀k,k<m->∀x∈L.getD k [],∃j,j<m/\srS (C++[bT B k,x])=rw7 C (bT B) (lT L) k j/\x=lT L k j:=λk q x U=>by
  obtain⟨j,J,e⟩:=bh U;have ln:=le _ (aZ1 (l:=L) (k:=k) (z:=[]) (by omega)).1
  have:lT L k j=x:=by
   show(L.getD k []).getD j ⟨#[]⟩=x;rw[ai,af J];exact e
  refine⟨j,by omega,?_,this.symm⟩
  unfold rw7;rw[this]
 refine⟨λk q=>?_,aJ (λ{k k'} q D n u hu v hv e=>?_) dq⟩
 ·have q:=ax.mp q;have Y:(L.getD k []).Nodup:=by
   have ln:=le _ (aZ1 (l:=L) (k:=k) (z:=[]) (by omega)).1
   refine bO.mpr λi j hi J hij e=>?_;have g:∀i (h:i<(L.getD k []).length),lT L k i=(L.getD k [])[i]:=λi h=>by
    show(L.getD k []).getD i ⟨#[]⟩=_;rw[ai,af h];rfl
   have:=(T.ll k i k j q (by omega) q (by omega) (by rw[g i hi,g j J];exact e)).2
   omega
  refine bH.mpr (aJ (λ{x y} U Z n e=>n ?_) Y);obtain⟨j,J,e1,e2⟩:=key k q x U;obtain⟨j',G,O,e2'⟩:=key k q y Z;rw[e1,O] at e;rw[e2,e2',(T.inj q J q G e).2]
 ·have q:=ax.mp q;have D:=ax.mp D;obtain⟨x,U,rfl⟩:=aQ.mp hu;obtain⟨y,Z,rfl⟩:=aQ.mp hv;obtain⟨j,J,e1,_⟩:=key k q x U;obtain⟨j',G,O,_⟩:=key k' D y Z;rw[e1,O] at e;exact n (T.inj q J D G e).1
abbrev s_law_tree:Stmt:=top 25
theorem sc_law_tree:FnScope ["deck", "many", "own", "names", "core", "branches", "leaves", "k", "begin"] ["deck"] (aQ5 s_law_tree):=fsc
def bQj:SpD:=λds S Q=>∃(a:Addr) (n:Nat),ds=[.ref a]/\DkD S a n/\n<=800000/\∀(m:Nat) (C B:List Str) (L:List (List Str)) (p:Addr) S',2<=m->m<=3->(C++B++L.flatten).Nodup->C.length<=4->C.length+m+m*m<=12->B.length=m->L.length=m->(∀x∈L,x.length=m)->S p=none->S' p=some (.lst (L.map λx=>D.lst (x.map D.str)))->DkD S' a (n+500)->(∀b,b≠a->b≠p->S' b=S b)->Q (.lst [.int m,.lst (C.map D.str),.lst (B.map D.str),.ref p]) S'
section
variable{P:au}{w:aN}{K:ay}{mg:Str->Option ae}{base:bu}{pt cc:Addr}
theorem cQ0(T:Tx K mg "_law_tree" s_law_tree)(B:Bs mg)(d_law_draw:Df P w K mg base 2 "_law_draw" ["deck", "most"] (spU K aXb))(d_law_names:Df P w K mg base 2 "_law_names" ["deck", "many"] (spU K bXx)):Df P w K mg base 3 "_law_tree" ["deck"] (spU K bQj):=by
 refine aZl T sc_law_tree (λF=>F.binds λ_ _ _ _ _ _=>us1 λ_=>rfl) ?_ λf cdv A outer s H E hr=>⟨_,(aQ2 (aQ9 (i:=1) sc_law_tree.nd rfl (a9 rfl) (aQp (k:=false) aQb (aQ4 d_law_draw hr rfl (aQ0 (dv 0) (aQ0 aQb aQ1)))))
  (aQ2 (aQ9 (i:=2) sc_law_tree.nd rfl (a9 rfl) (aQ4 d_law_draw hr rfl (aQ0 (dv 0) (aQ0 (e_ix (aX0 (b:=false) (aQ0 aQb (aQ0 aQb aQ1))) (dZl (dv 1) aQb)) aQ1))))
  (aQ2 (aQ9 (i:=3) sc_law_tree.nd rfl (a9 rfl) (aQ4 d_law_names hr rfl (aQ0 (dv 0) (aQ0 (aQp (k:=false) (aQp (k:=false) (dv 2) (dv 1)) (aJ2 (dv 1) (dv 1))) aQ1))))
  (aQ2 (aQ9 (i:=4) sc_law_tree.nd rfl (a9 rfl) (e_sl (b:=false) (dv 3) aX1 (aQz (dv 2))))
  (aQ2 (aQ9 (i:=5) sc_law_tree.nd rfl (a9 rfl) (e_sl (b:=false) (dv 3) (aQz (dv 2)) (aQz (aQp (k:=false) (dv 2) (dv 1)))))
  (aQ2 (aQ9 (i:=6) sc_law_tree.nd rfl (a9 rfl) (aX0 (b:=true) aQ1))
  (aQ2 (aZw cK rfl (aZo rfl B.range (aQ0 (dv 1) aQ1)) (aQk (i:=7) sc_law_tree.nd rfl (a9 rfl)) (aQ2 (aQ9 (i:=8) sc_law_tree.nd rfl (a9 rfl) (aQp (k:=false) (aQp (k:=false) (dv 2) (dv 1)) (aJ2 (dv 1) (dv 7))))
  (aQ3 (bQ8 (bZk (dv 6) (aQ0 (e_sl (b:=false) (dv 3) (aQz (dv 8)) (aQz (aQp (k:=false) (dv 8) (dv 1)))) aQ1))))))
  (aQ3 (aQe (aX0 (b:=false) (aQ0 (dv 1) (aQ0 (dv 4) (aQ0 (dv 5) (aQ0 (dv 6) aQ1)))))))))))))),?_⟩
 ·rintro ds S Q ⟨a,n,rfl,_⟩;rfl
 ·rintro ds S Q ⟨a,n,rfl,dk,n9,q⟩;refine⟨a,2,n,rfl,dk,by omega,by decide,by decide,λr S1 r0 r1 J dk1=>?_⟩
  obtain⟨m,hm,m2,m3⟩:∃m:Nat,2+r=m/\2<=m/\m<=3:=⟨(2+r).toNat,by omega,by omega,by omega⟩
  obtain⟨v,hv,v1,v5⟩:∃v:Nat,atI [D.int 5,.int 1] ((m:Int)-2)=some (.int (v:Nat))/\1<=v/\v+1+m<=8-3*(m-2):=by
   have h:m=2\/m=3:=by omega
   rcases h with rfl|rfl
   ·exact⟨5,rfl,by decide,by decide⟩
   ·exact⟨1,rfl,by decide,by decide⟩
  refine⟨z9999 (by show 2<=9999;decide),_,_,rfl,(by rw[hm];exact hv),a,v,n+1,rfl,dk1,by omega,by omega,by omega,λo' S2 o0 o1 G dk2=>?_⟩
  obtain⟨o,rfl⟩:∃o:Nat,o'=o:=⟨o'.toNat,by omega⟩
  show dSeq _ _ _ [some (.ref a),some (.int (2+r)),some (.int (o:Nat)),none,none,none,none,none,none] S2;rw[hm];have mm:m*m=4/\m=2\/m*m=9/\m=3:=by
   have h:m=2\/m=3:=by omega
   rcases h with rfl|rfl
   ·exact .inl ⟨rfl,rfl⟩
   ·exact .inr ⟨rfl,rfl⟩
  refine⟨.inl ⟨by omega,by omega⟩,a,o+m+m*m,n+1+1,?_,dk2,by omega,by omega,λws S3 wn wl _ z L=>?_⟩
  ·show [D.ref a,D.int (((o:Nat):Int)+((m:Nat):Int)+((m:Nat):Int)*((m:Nat):Int))]=_;rw[<- fF,<- cS,<- cS]
  have cm:∀i k:Nat,i+k<=ws.length->cutD (ws.map D.str) (some ((i:Nat):Int)) (some (((i:Nat):Int)+((k:Nat):Int)))=((ws.drop i).take k).map D.str:=λi k h=>by
   rw[bZn,show((i:Nat):Int)+((k:Nat):Int)=((i+k:Nat):Int) by omega,HT.sIx_nat,HT.sIx_nat,Nat.min_eq_left (show i<=ws.length by omega)]
   first|rw[Nat.min_eq_left h,Nat.add_sub_cancel_left]|rw[Nat.add_sub_cancel_left]
  have c0:cutD (ws.map D.str) none (some ((o:Nat):Int))=(ws.take o).map D.str:=by rw[bZw,jw]
  refine⟨((o:Nat):Int),rfl,_,rfl,?_⟩;rw[c0];refine⟨((o:Nat):Int),rfl,((o:Nat):Int)+((m:Nat):Int),rfl,_,rfl,?_⟩;rw[cm o m (by omega)]
  refine⟨z9999 (by decide),λp hp=>⟨⟨by omega,by omega⟩,?_⟩⟩
  rw[b5];refine aZ8 (λi Γ S'=>∃Y U:Option D,Γ=[some (.ref a),some (.int (m:Nat)),some (.int (o:Nat)),some (.lst (ws.map D.str)),some (.lst ((ws.take o).map D.str)),some (.lst (((ws.drop o).take m).map D.str)),some (.ref p),Y,U]/\S' p=some (.lst ((aI i).map λk=>D.lst (((ws.drop (o+m+m*k)).take m).map D.str)))/\∀b,b≠p->S' b=S3 b) ⟨none,none,rfl,aQ6,λb O=>supd_ne O⟩ ?_ ?_
  ·rintro i x Γ S' N Z ⟨Y,U,rfl,hf,off⟩ hN;obtain⟨hi,rfl⟩:=bXs Z;have hib:m*i+m<=m*m:=by rw[<- Nat.mul_succ];exact Nat.mul_le_mul_left m hi
   refine⟨trivial,.inl ⟨by omega,by omega⟩,⟨_,hf⟩,((o+m+m*i:Nat):Int),?_,((o+m+m*i:Nat):Int)+((m:Nat):Int),?_,_,rfl,?_⟩
   ·show D.int (((o:Nat):Int)+((m:Nat):Int)+((m:Nat):Int)*((i:Nat):Int))=_;rw[<- fF,<- cS,<- cS]
   ·show D.int (((o:Nat):Int)+((m:Nat):Int)+((m:Nat):Int)*((i:Nat):Int)+((m:Nat):Int))=_;rw[<- fF,<- cS,<- cS]
   rw[cm _ m (by omega)]
   refine⟨_,hf,z9999 (by rw[ah,bF];omega),hN _ _ ⟨_,_,rfl,?_,λb O=>(supd_ne O).trans (off b O)⟩⟩
   rw[aQ6,dQ,aZ];rfl
  rintro Γ S' ⟨Y,U,rfl,hf,off⟩;rw[aZc] at hf;refine⟨trivial,z9999 (by show 4<=9999;decide),?_⟩
  have fl:∀i:Nat,((aI i).map λk=>(ws.drop (o+m+m*k)).take m).flatten=(ws.drop (o+m)).take (m*i):=λi=>by
   induction i with
   |zero=>rfl
   |succ i ih =>
    rw[dQ,aZ,eF,ih,Nat.mul_succ,List.take_add,iX];simp
  have ew:ws.take o++(ws.drop o).take m++((aI m).map λk=>(ws.drop (o+m+m*k)).take m).flatten=ws:=by
   have e3:(ws.drop (o+m)).take (m*m)=ws.drop (o+m):=bN (by rw[bm];omega)
   rw[fl,e3,<- iX,bd,bJ,bJ]
  have j:p≠a:=L.ne hp;refine aQg (q m (ws.take o) ((ws.drop o).take m) ((aI m).map λk=>(ws.drop (o+m+m*k)).take m) p S' m2 m3 (by rw[ew];exact wn) ?_ ?_ ?_ (by rw[ah,bF]) (λx Z=>?_) ?_ ?_ ?_ λb h1 h2=>?_)
  ·rw[aM];omega
  ·rw[aM];omega
  ·rw[aM,bm];omega
  ·obtain⟨k,hk,rfl⟩:=aQ.mp Z;have hk:=ax.mp hk;have hib:m*k+m<=m*m:=by rw[<- Nat.mul_succ];exact Nat.mul_le_mul_left m hk
   rw[aM,bm];omega
  ·have e1:S3 p=S p:=by rw[z p j,G p j,J p j]
   rw[<- e1];exact hp
  ·rw[hf,bI];rfl
  ·exact(L.eq (off a (cA j))).mono (by omega)
  ·rw[off b h2,z b h1,G b h1,J b h1]
end
abbrev s_law_set:Stmt:=top 24
theorem cX1:FnScope ["names"] ["names"] (aQ5 s_law_set):=fsc
def aJf:SpD:=λds S Q=>∃ns:List Str,ds=[.lst (ns.map D.str)]/\Q (tupS (srS ns)) S
section
variable{P:au}{w:aN}{K:ay}{mg:Str->Option ae}{base:bu}{pt cc:Addr}
theorem cX2(T:Tx K mg "_law_set" s_law_set)(B:Bs mg):Df P w K mg base 1 "_law_set" ["names"] (spU K aJf):=by
 refine aZl T cX1 (λF=>F.binds λ_ _ _ _ _ _=>us1 λ_=>rfl) ?_ λf z A outer s H E j=>⟨_,(aQ3 (aQe (aZ2 rfl B.tuple (aQ0 (aX7 (b:=false) j rfl B.sorted (aQ0 (dv 0) aQ1)) aQ1)))),?_⟩
 ·rintro ds S Q ⟨ns,rfl,_⟩;rfl
 ·rintro ds S Q ⟨ns,rfl,q⟩;exact .inl ⟨ns,rfl,_,rfl,aQg q⟩
end
abbrev s_choices_of:Stmt:=top 5
theorem sc_choices_of:FnScope ["things", "many", "found", "at", "one"] ["things", "many"] (aQ5 s_choices_of):=fsc
def aXt:SpD:=dX8 8
section
variable{P:au}{w:aN}{K:ay}{mg:Str->Option ae}{base:bu}{pt cc:Addr}
theorem eXf{k n:Nat}(T:Tx K mg "choices_of" s_choices_of)(B:Bs mg)(d_choices_of:Df P w K mg base k "choices_of" ["things", "many"] (spU K (dX8 n))):Df P w K mg base (k+1) "choices_of" ["things", "many"] (spU K (dX8 (n+1))):=by
 refine aZl T sc_choices_of (λF=>F.binds λ_ _ _ _ _ _=>us2 λ_ _=>rfl) ?_ λf cdv A outer s H E hr=>⟨_,(aQ2 (aXs (dZn hr (dv 1) aQb) (aQ3 (aQe (aX0 (b:=false) (aQ0 (bQ6 aQ1) aQ1)))) aZ3)
  (aQ2 (aXs (bXp (eZs aQb (dv 1) (bJp rfl B.len (aQ0 (dv 0) aQ1)))) (aQ3 (aQe (aX0 (b:=false) aQ1))) aZ3)
  (aQ2 (aQ9 (i:=2) sc_choices_of.nd rfl (a9 rfl) (aX0 (b:=true) aQ1))
  (aQ2 (aZw cK rfl (fZ1 rfl B.enumerate (aQ0 (dv 0) aQ1)) (cQq rfl (aQv (aQk (i:=3) sc_choices_of.nd rfl (a9 rfl)) (aQv (aQk (i:=4) sc_choices_of.nd rfl (iz rfl)) bQ7))) (aQ3 (bQ8 (cQx (dv 2) (aQ0 (aZa (N':=["more", "one"]) (oc:=none) (b:=true) [0] [] rfl sc_choices_of.nd (λ_ _ _=>aQf ..) (.own (.cap (i:=4) rfl (by decide +kernel) .nil)) (aQh rfl) (aZb (aQ4 d_choices_of hr rfl (aQ0 (e_sl (b:=false) (dv 0) (aQz (aQp (k:=false) (dv 3) aQb)) aX1) (aQ0 (dZl (dv 1) aQb) aQ1)))) (cg_name (i:=0)) (λ_ _ _ _ _=>aQd (i:=0) (nd_ ["more", "one"]) rfl (a9 rfl) (.inr rfl)) (λ_ _ _ _ _=>aZ7) aQn (λ_ _ _ _ _ _=>aQl rfl (by exact PD.o (aQp (k:=false) (bQ6 (aQ0 (dv 1) aQ1)) (dv 0))))) aQ1)))))
  (aQ3 (aQe (dv 2))))))),?_⟩
 ·rintro ds S Q ⟨xs,m,rfl,_⟩;rfl
 ·rintro ds S Q ⟨xs,m,rfl,hm,hx,q⟩;refine⟨rfl,_,rfl,ite2 (λc1=>?_) λc1=>?_⟩
  ·have e:m=0:=by
    have:=of_decide_eq_true c1
    injection this with this
    omega
   subst e;rw[ch_zero] at q;exact⟨z9999 (by decide),z9999 (by show 1<=9999;decide),aQg q⟩
  have m0:m≠0:=λe=>c1 (decide_eq_true (by rw[e];rfl))
  refine⟨_,rfl,ite2 (λ_=>?_) λc=>absurd (decide_eq_true (by omega)) c⟩
  refine⟨_,rfl,_,rfl,ite2 (λc2=>?_) λc2=>?_⟩
  ·have hb:xs.length<m:=by simp at c2;omega
   rw[dQ4 xs m hb] at q;exact⟨z9999 (by decide),aQg q⟩
  have hb:m<=xs.length:=by simp at c2;omega
  obtain⟨c,rfl⟩:∃c,m=c+1:=⟨m-1,by omega⟩
  refine⟨z9999 (by decide),λfp G=>?_⟩
  have hcl:∀m,(ch xs m).length<=2^20:=λm=>Nat.le_trans (cZ5 xs m) (Nat.pow_le_pow_right (by decide) hx)
  refine aZ8 (λi Γ S'=>∃(O L:Option D) (acc:List (List D)),Γ=[some (.tup xs),some (.int ((c+1:Nat):Int)),some (.ref fp),O,L]/\S' fp=some (.lst (acc.map D.tup))/\acc++ch (xs.drop i) (c+1)=ch xs (c+1)/\∀b o,S b=some o->S' b=some o)
   ⟨none,none,[],rfl,aQ6,rfl,λb o e=>by rw[supd_ne (by rintro rfl;rw[G] at e;cases e)];exact e⟩ ?_ ?_
  ·rintro i x Γ S' N Y ⟨O,L,acc,rfl,hf,j,J⟩ hN;obtain⟨y,hy,rfl⟩:=bQa xs 0 i x Y;have hi:i<xs.length:=by
    rcases Nat.lt_or_ge i xs.length with z|z
    ·exact z
    ·rw[cx z] at hy;cases hy
   have U:xs[i]=y:=by rw[af hi] at hy;exact aO hy
   have hd:=eX2 xs i c hi;rw[U] at hd;have hlen:acc.length+(ch (xs.drop (i+1)) c).length<=2^20:=by
    have h1:=congrArg d9 j;rw[hd,ap,ap,ah] at h1
    have:=hcl (c+1)
    omega
   refine⟨trivial,rfl,rfl,⟨_,hf⟩,_,rfl,xs.drop (i+1),c,?_,by omega,by rw[bm];omega,_,rfl,aX9 (enc:=D.tup) (f:=λmore=>D.tup (y::more)) (λmore hm Q q=>?_) ?_ ?_⟩
   ·show [D.tup (cutD xs (some (0+(i:Int)+1)) none),D.int (((c+1:Nat):Int)-1)]=_;rw[Int.zero_add,dX7,show((c+1:Nat):Int)-1=(c:Int) by omega]
   ·have h1:=(ch_mem hm).1;exact⟨z9999 (by show 1<=9999;decide),z9999 (by show 1+more.length<=9999;omega),q⟩
   ·rw[bK];show 0+(ch (xs.drop (i+1)) c).length<=_;omega
   ·intro p2 hp2;have Z:p2≠fp:=by rintro rfl;rw[hp2] at hf;cases hf
    refine⟨_,_,(supd_ne (cA Z)).trans hf,aQ6,?_,hN _ _ ⟨_,_,acc++(ch (xs.drop (i+1)) c).map (y::·),rfl,?_,?_,λb o e=>?_⟩⟩
    ·rw[bP,ah,ah,bK];omega
    ·rw[aQ6,aZ,bI];rfl
    ·rw[bd,<- hd];exact j
    ·rw[supd_ne (by rintro rfl;rw[G] at e;cases e),supd_ne (by rintro rfl;rw[J _ _ e] at hp2;cases hp2)]
     exact J b o e
  ·rintro Γ S' ⟨O,L,acc,rfl,hf,j,J⟩;rw[bQ9,bQ (Nat.le_refl _),dJf,cr] at j;refine⟨trivial,dJ8 (S':=S) hf J G (j▸q)⟩
theorem dJk(T:Tx K mg "choices_of" s_choices_of)(B:Bs mg):∀n:Nat,Df P w K mg base (1+n) "choices_of" ["things", "many"] (spU K (dX8 n))
 |0=>T.df (λF=>F.binds λ_ _ _ _ _ _=>us2 λ_ _=>rfl) λF=>F.ok sc_choices_of (λvs H Q E ⟨_,_,_,_,_,_,⟨_,_,_,h,_⟩,_⟩=>absurd h (Nat.not_lt_zero _)) λj A outer s H vs Q z q ⟨_,_,_,_,_,_,⟨_,_,_,h,_⟩,_⟩=>absurd h (Nat.not_lt_zero _)
 |n+1=>eXf T B (dJk T B n)
theorem bX1(T:Tx K mg "choices_of" s_choices_of)(B:Bs mg):Df P w K mg base 9 "choices_of" ["things", "many"] (spU K aXt):=by
 exact dJk T B 8
end
abbrev s_meet_of:Stmt:=top 3
theorem sc_meet_of:FnScope ["one", "other"] ["one", "other"] (aQ5 s_meet_of):=fsc
section
variable{P:au}{w:aN}{K:ay}{mg:Str->Option ae}{base:bu}{pt cc:Addr}
theorem cX3(T:Tx K mg "meet_of" s_meet_of)(B:Bs mg):Df P w K mg base 1 "meet_of" ["one", "other"] (spU K aJ9):=by
 refine aZl T sc_meet_of (λF=>F.binds λ_ _ _ _ _ _=>us2 λ_ _=>rfl) ?_ λf G A outer s H E z=>⟨_,(aQ3 (aQe (aZ2 rfl B.tuple (aQ0 (aZa (N':=["name", "other"]) (oc:=none) (b:=false) [0] [] rfl sc_meet_of.nd (λ_ _ _=>aQf ..) (.own (.cap (i:=1) rfl (by decide +kernel) .nil)) (aQh rfl) (aZb (dv 0)) (cg_name (i:=0)) (λ_ _ _ _ _=>aQd (i:=0) (nd_ ["name", "other"]) rfl (a9 rfl) (.inr rfl)) (λ_ _ _ _ _=>aZg (by exact(fXx z (dv 0) (dv 1)))) aQn (λ_ _ _ _ _ _=>aQl rfl (by exact PD.o (dv 0)))) aQ1)))),?_⟩
 ·rintro ds S Q ⟨one,row,rfl,_⟩;rfl
 ·rintro ds S Q ⟨one,row,rfl,hl,q⟩;exact⟨one.map D.str,rfl,aQr (p:=λn=>decide (n∈row)) (f:=D.str) (λx j Q q=>in_t (neg:=false) (E:=strE) (by decide) rfl q) (λx j _ Q q=>q) (z9999 (by show 0+one.length<=_;omega)) ⟨_,rfl,aQg q⟩⟩
end
abbrev s_cores_of_two:Stmt:=top 13
theorem sc_cores_of_two:FnScope ["sets"] ["sets"] (aQ5 s_cores_of_two):=fsc
def aX4:SpD:=λds S Q=>∃(ts:List (List Str)),ds=[.tup (ts.map tupS)]/\ts.length<=14/\(∀t∈ts,t.length<=12)/\∀out,SrtT out->(∀t,t∈out↔t∈mets ts)->Q (.lst (out.map tupS)) S
section
variable{P:au}{w:aN}{K:ay}{mg:Str->Option ae}{base:bu}{pt cc:Addr}
theorem bQk(T:Tx K mg "cores_of_two" s_cores_of_two)(B:Bs mg)(d_choices_of:Df P w K mg base 9 "choices_of" ["things", "many"] (spU K aXt))(d_meet_of:Df P w K mg base 9 "meet_of" ["one", "other"] (spU K aJ9)):Df P w K mg base 10 "cores_of_two" ["sets"] (spU K aX4):=by
 refine aZl T sc_cores_of_two (λF=>F.binds λ_ _ _ _ _ _=>us1 λ_=>rfl) ?_ λf cdv A outer s H E J=>⟨_,(aQ3 (aQe (dQ2 (N':=["one", "other"]) (oc:=none) (b:=false) [0,1] [] J rfl B.sorted rfl sc_cores_of_two.nd (λ_ _ _=>bXu ..) (.own (.own .nil)) (aQh rfl) (aZb (aQ4 d_choices_of J rfl (aQ0 (dv 0) (aQ0 aQb aQ1)))) (eZg (i:=0) (j:=1)) (λ_ _ _ _ _=>cQ6 rfl (aZr (aQd (i:=0) (nd_ ["one", "other"]) rfl (a9 rfl) (.inr rfl)) (aZr (aQd (i:=1) (nd_ ["one", "other"]) rfl (a9 rfl) (.inr rfl)) bZ5))) (λ_ _ _ _ _=>aZ7) dJe (λ_ _ _ _ _ _=>(bZs (kn:=bJv _ _ _) rfl (lt10 J) rfl rfl rfl (by exact PD.o (aQ4 d_meet_of J rfl (aQ0 (dv 0) (aQ0 (dv 1) aQ1))))))))),?_⟩
 ·rintro ds S Q ⟨G,rfl,_⟩;rfl
 ·rintro ds S Q ⟨G,rfl,Z,he,q⟩;have ml:=cZ9 G Z;have ml2:(Toy.ch G 2).length<=91:=by rw[mets,ah] at ml;exact ml
  refine⟨G.map tupS,2,rfl,by decide,by rw[ah];omega,(Toy.ch G 2).map (λs=>D.tup (s.map tupS)),(by show _=_;rw[Toy.ch_map,bI];rfl),?_⟩
  refine aX8 (λi acc S'=>S'=S/\acc=(((Toy.ch G 2).take i).map mt2).map tupS) ⟨rfl,rfl⟩ ?_ ?_
  ·rintro i x acc S' N hx ⟨rfl,rfl⟩ hN;rw[aL,bR] at hx;obtain⟨p,U,rfl⟩:=hx;obtain⟨a,b,rfl,Y⟩:=aJo (am U);have hi:=(aB.mp U).1;have ha:=he a (Y.subset (by simp))
   refine⟨trivial,rfl,rfl,a,b,rfl,by omega,mt2 [a,b],rfl,?_,hN _ _ ⟨rfl,?_⟩⟩
   ·rw[ah,ah,aM];omega
   ·rw[cE,U,aZ,aZ];rfl
  ·rintro acc S' ⟨rfl,rfl⟩;rw[ah,cz];refine⟨trivial,mets G,rfl,λout O z=>⟨?_,λL=>aQg (q out L z)⟩⟩
   have:=O.length_le_of_subset λt ht=>(z t).mp ht
   omega
end
abbrev s_meets:Stmt:=top 2
theorem sc_meets:FnScope ["one", "row"] ["one", "row"] (aQ5 s_meets):=fsc
section
variable{P:au}{w:aN}{K:ay}{mg:Str->Option ae}{base:bu}{pt cc:Addr}
theorem dXc(T:Tx K mg "meets" s_meets)(B:Bs mg):Df P w K mg base 1 "meets" ["one", "row"] (spU K aXa):=by
 refine aZl T sc_meets (λF=>F.binds λ_ _ _ _ _ _=>us2 λ_ _=>rfl) ?_ λf L A outer s H E G=>⟨_,(aQ3 (aQe (fJ0 rfl B.any (aQ0 (aZa (N':=["name", "one"]) (oc:=none) (b:=false) [0] [] rfl sc_meets.nd (λ_ _ _=>aQf ..) (.own (.cap (i:=0) rfl (by decide +kernel) .nil)) (aQh rfl) (aZb (dv 1)) (cg_name (i:=0)) (λ_ _ _ _ _=>aQd (i:=0) (nd_ ["name", "one"]) rfl (a9 rfl) (.inr rfl)) (λ_ _ _ _ _=>aZ7) aQn (λ_ _ _ _ _ _=>aQl rfl (by exact PD.o (e_in G (dv 0) (dv 1))))) aQ1)))),?_⟩
 ·rintro ds S Q ⟨α,dα,E,one,row,j,J,rfl,_⟩;rfl
 ·rintro ds S Q ⟨α,dα,E,one,row,j,J,rfl,O,h1,h2,hl,q⟩;have go:∀Q':List D->Sto->Prop,Q' (row.map λd=>D.bl (decide (d∈one))) S->aZd (aQq 0) dYes (bQb (dOp (inD false) (dVar 0) (dVar 1))) (λ_=>True) [none,some j] (row.map E.e) [] S Q':=λQ' z =>
   aX9 (f:=λd=>D.bl (decide (d∈one))) (λd hd Q q=>in_e (neg:=false) (E:=E) (by omega) h1.sq q) (z9999 (by show 0+row.length<=_;omega)) z
  have e:(row.map λd=>decide (d∈one)).any id=mts one row:=by unfold mts;rw[List.any_map];rfl
  rw[<- e] at q;rcases h2 with rfl|rfl
  ·exact⟨row.map E.e,rfl,go _ ⟨row.map λd=>decide (d∈one),by show _=_;rw[bI];rfl,aQg q⟩⟩
  ·exact⟨row.map E.e,rfl,go _ ⟨row.map λd=>decide (d∈one),by show _=_;rw[bI];rfl,aQg q⟩⟩
end
abbrev s_has_all:Stmt:=top 1
theorem sc_has_all:FnScope ["one", "row"] ["one", "row"] (aQ5 s_has_all):=fsc
section
variable{P:au}{w:aN}{K:ay}{mg:Str->Option ae}{base:bu}{pt cc:Addr}
theorem cX4(T:Tx K mg "has_all" s_has_all)(B:Bs mg):Df P w K mg base 1 "has_all" ["one", "row"] (spU K aZp):=by
 refine aZl T sc_has_all (λF=>F.binds λ_ _ _ _ _ _=>us2 λ_ _=>rfl) ?_ λf L A outer s H E G=>⟨_,(aQ3 (aQe (fXz rfl B.all (aQ0 (aZa (N':=["name", "one"]) (oc:=none) (b:=false) [0] [] rfl sc_has_all.nd (λ_ _ _=>aQf ..) (.own (.cap (i:=0) rfl (by decide +kernel) .nil)) (aQh rfl) (aZb (dv 1)) (cg_name (i:=0)) (λ_ _ _ _ _=>aQd (i:=0) (nd_ ["name", "one"]) rfl (a9 rfl) (.inr rfl)) (λ_ _ _ _ _=>aZ7) aQn (λ_ _ _ _ _ _=>aQl rfl (by exact PD.o (e_in G (dv 0) (dv 1))))) aQ1)))),?_⟩
 ·rintro ds S Q ⟨α,dα,E,one,row,j,J,rfl,_⟩;rfl
 ·rintro ds S Q ⟨α,dα,E,one,row,j,J,rfl,O,h1,h2,hl,q⟩;have go:∀Q':List D->Sto->Prop,Q' (row.map λd=>D.bl (decide (d∈one))) S->aZd (aQq 0) dYes (bQb (dOp (inD false) (dVar 0) (dVar 1))) (λ_=>True) [none,some j] (row.map E.e) [] S Q':=λQ' z =>
   aX9 (f:=λd=>D.bl (decide (d∈one))) (λd hd Q q=>in_e (neg:=false) (E:=E) (by omega) h1.sq q) (z9999 (by show 0+row.length<=_;omega)) z
  have e:(row.map λd=>decide (d∈one)).all id=has one row:=by unfold has;rw[jY];rfl
  rw[<- e] at q;rcases h2 with rfl|rfl
  ·exact⟨row.map E.e,rfl,go _ ⟨row.map λd=>decide (d∈one),by show _=_;rw[bI];rfl,aQg q⟩⟩
  ·exact⟨row.map E.e,rfl,go _ ⟨row.map λd=>decide (d∈one),by show _=_;rw[bI];rfl,aQg q⟩⟩
end
abbrev s_names_of:Stmt:=top 7
theorem sc_names_of:FnScope ["sets"] ["sets"] (aQ5 s_names_of):=fsc
section
variable{P:au}{w:aN}{K:ay}{mg:Str->Option ae}{base:bu}{pt cc:Addr}
theorem cQ1(T:Tx K mg "names_of" s_names_of)(B:Bs mg):Df P w K mg base 1 "names_of" ["sets"] (spU K aZu):=by
 refine aZl T sc_names_of (λF=>F.binds λ_ _ _ _ _ _=>us1 λ_=>rfl) ?_ λf cdv A outer s H E Z=>⟨_,(aQ3 (aQe (aZ2 rfl B.tuple (aQ0 (eZz (N':=["one", "name"]) (oc:=none) (b:=false) [0,1] [1] Z rfl B.sorted rfl sc_names_of.nd (λ_ _ _=>cZw _ _ _ _ _ _ _ _ _ _ _ _) (.own (.own .nil)) (aQh rfl) (aZb (dv 0)) (cg_name (i:=0)) (λ_ _ _ _ _=>aQd (i:=0) (nd_ ["one", "name"]) rfl (a9 rfl) (.inr rfl)) (λ_ _ _ _ _=>aZ7) (dQ1 (cg_name (i:=1)) fZr) (λ_ _ _ _ _ _=>dZ4 (m:=λacc=>emitOfS _ acc _) rfl rfl rfl (λ_=>cZx _ _ _ _ _ _ _ _ _ _ _ _) (by exact PID.o (aZb (dv 0))) (aQd (i:=1) (nd_ ["one", "name"]) rfl (a9 rfl) (.inr rfl)) (aZ7) (bZs (kn:=cZy _ _ _) rfl (lt10 Z) rfl rfl rfl (by exact PD.o (dv 1))) (λ_=>rfl) (λ_=>rfl) (λ_=>rfl) (λ_=>rfl) (λ_=>rfl))) aQ1)))),?_⟩
 ·rintro ds S Q ⟨ts,rfl,_⟩;rfl
 ·rintro ds S Q ⟨ts,rfl,hl,Y,h64,q⟩;have bound:∀l:List (List Str),(∀t∈l,t.length<=12)->l.flatten.length<=12*l.length:=by
   intro l
   induction l with
   |nil=>intro _;exact Nat.le_refl _
   |cons t l ih =>
    intro h;have h1:=h t ak;have h2:=ih λt G=>h t (ao _ G);rw[gU,ap,aK];omega
  refine⟨ts.map tupS,rfl,aX8 (λi acc S'=>S'=S/\acc=((ts.take i).flatten).map D.str) ⟨rfl,rfl⟩ ?_ ?_⟩
  ·rintro i x acc S' N U ⟨rfl,rfl⟩ hN;rw[aL,bR] at U;obtain⟨t,G,rfl⟩:=U;refine⟨trivial,t.map D.str,rfl,aX8 (λj acc L=>L=S'/\acc=((ts.take i).flatten++t.take j).map D.str) ⟨rfl,by rw[iY,cr]⟩ ?_ ?_⟩
   ·rintro j y acc L N2 O ⟨rfl,rfl⟩ J;rw[aL,bR] at O;obtain⟨n,hn,rfl⟩:=O;refine⟨trivial,n,rfl,?_,J _ _ ⟨rfl,?_⟩⟩
    ·have b1:=bound (ts.take i) λt G=>Y t (du G);have b2:=Y t (am G);have hi:i<ts.length:=(aB.mp G).1;rw[aM] at b1;rw[ah,ap,aM];omega
    ·rw[cE,hn];simp
   ·rintro acc L ⟨rfl,rfl⟩;rw[ah,cz];refine⟨trivial,hN _ _ ⟨rfl,?_⟩⟩;rw[cE,G,eF];simp
  ·rintro acc S' ⟨rfl,rfl⟩;rw[ah,cz];refine⟨trivial,ts.flatten,rfl,λout nd mem=>?_⟩;have z:∀x,x∈out↔∃t∈ts,x∈t:=λx=>(mem x).trans f9;refine⟨?_,λpw=>?_⟩
   ·have:out.length=(nms ts).length:=by
     rw[<- (aZ4 out).length_eq,dJh (aJ8 nd) λx=>mem_srS.trans (z x)]
    omega
   ·rw[dJh pw z];exact⟨_,rfl,aQg q⟩
end
abbrev s_without_names:Stmt:=top 4
theorem sc_without_names:FnScope ["one", "row"] ["one", "row"] (aQ5 s_without_names):=fsc
section
variable{P:au}{w:aN}{K:ay}{mg:Str->Option ae}{base:bu}{pt cc:Addr}
theorem aJj(T:Tx K mg "without_names" s_without_names)(B:Bs mg):Df P w K mg base 1 "without_names" ["one", "row"] (spU K aQi):=by
 refine aZl T sc_without_names (λF=>F.binds λ_ _ _ _ _ _=>us2 λ_ _=>rfl) ?_ λf O A outer s H E J=>⟨_,(aQ3 (aQe (aZ2 rfl B.tuple (aQ0 (aZa (N':=["name", "row"]) (oc:=none) (b:=false) [0] [] rfl sc_without_names.nd (λ_ _ _=>aQf ..) (.own (.cap (i:=1) rfl (by decide +kernel) .nil)) (aQh rfl) (aZb (dv 0)) (cg_name (i:=0)) (λ_ _ _ _ _=>aQd (i:=0) (nd_ ["name", "row"]) rfl (a9 rfl) (.inr rfl)) (λ_ _ _ _ _=>aZg (by exact(fQq J (dv 0) (dv 1)))) aQn (λ_ _ _ _ _ _=>aQl rfl (by exact PD.o (dv 0)))) aQ1)))),?_⟩
 ·rintro ds S Q ⟨α,dα,E,one,row,L,j,rfl,_⟩;rfl
 ·rintro ds S Q ⟨α,dα,E,one,row,L,j,rfl,U,h1,h2,hl,q⟩;have go:∀Q':List D->Sto->Prop,Q' ((wo one row).map E.e) S->aZd (aQq 0) (aXq (dOp (inD true) (dVar 0) (dVar 1))) (bQb (dVar 0)) (λ_=>True) [none,some j] (one.map E.e) [] S Q':=λQ' z =>
   aQr (p:=λn=>!decide (n∈row)) (f:=E.e) (λx G Q q=>in_t (neg:=true) (E:=E) (by omega) h2.sq q) (λx G _ Q q=>q) (z9999 (by show 0+one.length<=_;omega)) z
  rcases h1 with rfl|rfl
  ·exact⟨one.map E.e,rfl,go _ ⟨_,rfl,aQg q⟩⟩
  ·exact⟨one.map E.e,rfl,go _ ⟨_,rfl,aQg q⟩⟩
end
abbrev s_without_row:Stmt:=top 9
theorem sc_without_row:FnScope ["sets", "row"] ["sets", "row"] (aQ5 s_without_row):=fsc
section
variable{P:au}{w:aN}{K:ay}{mg:Str->Option ae}{base:bu}{pt cc:Addr}
theorem bQq(T:Tx K mg "without_row" s_without_row)(B:Bs mg)(d_meets:Df P w K mg base 1 "meets" ["one", "row"] (spU K aXa)):Df P w K mg base 2 "without_row" ["sets", "row"] (spU K aQs):=by
 refine aZl T sc_without_row (λF=>F.binds λ_ _ _ _ _ _=>us2 λ_ _=>rfl) ?_ λf D A outer s H E z=>⟨_,(aQ3 (aQe (aZ2 rfl B.tuple (aQ0 (aZa (N':=["one", "row"]) (oc:=none) (b:=false) [0] [] rfl sc_without_row.nd (λ_ _ _=>aQf ..) (.own (.cap (i:=1) rfl (by decide +kernel) .nil)) (aQh rfl) (aZb (dv 0)) (cg_name (i:=0)) (λ_ _ _ _ _=>aQd (i:=0) (nd_ ["one", "row"]) rfl (a9 rfl) (.inr rfl)) (λ_ _ _ _ _=>aZg (by exact(bXp (aXr (aQ4 d_meets z rfl (aQ0 (dv 0) (aQ0 (dv 1) aQ1))))))) aQn (λ_ _ _ _ _ _=>aQl rfl (by exact PD.o (dv 0)))) aQ1)))),?_⟩
 ·rintro ds S Q ⟨j,row,rfl,_⟩;rfl
 ·rintro ds S Q ⟨j,row,rfl,hl,z,q⟩;refine⟨j.map tupS,rfl,aQr (p:=λt=>!mts t row) (f:=tupS) (λt J Q q=>?_) (λx G _ Q q=>q) (z9999 (by show 0+j.length<=_;omega)) ⟨_,rfl,aQg q⟩⟩
  exact⟨Str,inferInstance,strE,t,row,tupS t,tupS row,rfl,by decide,.inl rfl,.inl rfl,z,q⟩
end
abbrev s_so_many_apart:Stmt:=top 17
theorem sc_so_many_apart:FnScope ["sets", "many", "shortest", "one", "instead", "chosen"] ["sets", "many"] (aQ5 s_so_many_apart):=fsc
def dXd(n:Nat):SpD:=λds S Q=>∃(R:List (List Str)) (m:Nat),ds=[.tup (R.map tupS),.int m]/\m<n/\R.length<=14/\R.Nodup/\(∀t∈R,t.Nodup/\t.length<=12)/\(nms R).length<=60/\∀b:Bool,(b=true↔Ap R m)->Q (.bl b) S
def aZ9:SpD:=dXd 8
theorem eXg{R:List (List Str)}(h:R≠[]):shT R∈R:=by
 have:∀(bt:Nat->Nat->Bool) (k:Nat),gb bt k<=k:=λbt k=>by
  induction k with
  |zero=>exact Nat.le_refl _
  |succ k q=>unfold gb;split <;> omega
 have hl:=dO.mpr h;have h2:=this (λi j=>decide (((R.getD i []).length:Int)<((R.getD j []).length:Int))) (R.length-1);unfold shT;rw[ai,af (by omega)]
 exact d0 _
section
variable{P:au}{w:aN}{K:ay}{mg:Str->Option ae}{base:bu}{pt cc:Addr}
theorem eXh{k n:Nat}(T:Tx K mg "so_many_apart" s_so_many_apart)(B:Bs mg)(d_meets:Df P w K mg base k "meets" ["one", "row"] (spU K aXa))(d_has_all:Df P w K mg base k "has_all" ["one", "row"] (spU K aZp))(d_names_of:Df P w K mg base k "names_of" ["sets"] (spU K aZu))(d_without_names:Df P w K mg base k "without_names" ["one", "row"] (spU K aQi))(d_without_row:Df P w K mg base k "without_row" ["sets", "row"] (spU K aQs))(d_so_many_apart:Df P w K mg base k "so_many_apart" ["sets", "many"] (spU K (dXd n))):Df P w K mg base (k+1) "so_many_apart" ["sets", "many"] (spU K (dXd (n+1))):=by
 refine aZl T sc_so_many_apart (λF=>F.binds λ_ _ _ _ _ _=>us2 λ_ _=>rfl) ?_ λf cdv A outer s H E G=>⟨_,(aQ2 (aXs (dZn G (dv 1) aQb) (aQ3 (aQe e_bl)) aZ3)
  (aQ2 (aQ9 (i:=2) sc_so_many_apart.nd rfl (a9 rfl) (e_sl (b:=false) (aX7 (b:=false) G rfl B.sorted (aQ0 (aZa (N':=["one"]) (oc:=none) (b:=false) [0] [] rfl sc_so_many_apart.nd (λ_ _ _=>aQf ..) (.own .nil) (aQh rfl) (aZb (dv 0)) (cg_name (i:=0)) (λ_ _ _ _ _=>aQd (i:=0) (nd_ ["one"]) rfl (a9 rfl) (.inr rfl)) (λ_ _ _ _ _=>aZ7) aQn (λ_ _ _ _ _ _=>aQl rfl (by exact PD.o (bJp rfl B.len (aQ0 (dv 0) aQ1))))) aQ1)) aX1 (aQz (dv 1))))
  (aQ2 (aXs (PWD.pt (fQu (dZo G (bJp rfl B.len (aQ0 (dv 2) aQ1)) (dv 1)) (dJ3 (fQs G (fZf rfl B.sum (aQ0 (dv 2) aQ1)) (bJp rfl B.len (aQ0 (aQ4 d_names_of G rfl (aQ0 (dv 0) aQ1)) aQ1)))))) (aQ3 (aQe e_bl)) aZ3)
  (aQ2 (aQ9 (i:=3) sc_so_many_apart.nd rfl (iz rfl) (fZy rfl B.min rfl B.len (dv 0)))
  (aQ2 (bJr (i:=4) rfl (a9 rfl) (N':=["other", "one"]) (oc:=none) (b:=false) [0] [] rfl sc_so_many_apart.nd (λ_ _ _=>aQf ..) (.own (.cap (i:=3) rfl (by decide +kernel) .nil)) (aQh rfl) (aZb (dv 0)) (cg_name (i:=0)) (λ_ _ _ _ _=>aQd (i:=0) (nd_ ["other", "one"]) rfl (a9 rfl) (.inr rfl)) (λ_ _ _ _ _=>aZg (by exact(PWD.pt (dJ4 (aXr (aQ4 d_meets G rfl (aQ0 (dv 0) (aQ0 (dv 1) aQ1)))) (cJc (bXp (aXr (aQ4 d_has_all G rfl (aQ0 (dv 0) (aQ0 (dv 1) aQ1)))))))))) aQn (λ_ _ _ _ _ _=>aQl rfl (by exact PD.o (dv 0))))
  (aQ2 (aZw cK rfl (aZb (aQp (k:=false) (aX0 (b:=false) (aQ0 (dv 3) aQ1)) (dv 4))) (aQk (i:=5) sc_so_many_apart.nd rfl (a9 rfl)) (aQ3 (aXs (aXr (aQ4 d_so_many_apart G rfl (aQ0 (aQ4 d_without_row G rfl (aQ0 (aQ4 d_without_names G rfl (aQ0 (dv 0) (aQ0 (bQ6 (aQ0 (dv 5) aQ1)) aQ1))) (aQ0 (dv 5) aQ1))) (aQ0 (dZl (dv 1) aQb) aQ1)))) (aQ3 (aQe e_bl)) aZ3)))
  (aQ3 (aQe e_bl)))))))),?_⟩
 ·rintro ds S Q ⟨R,m,rfl,_⟩;rfl
 ·rintro ds S Q ⟨R,m,rfl,hm,rl,nd,he,rn,q⟩;have Y:∀b:Bool,(b=true↔Ap R m)->rtD Q (.bl b) S:=λb h=>aQg (q b h);refine⟨rfl,_,rfl,ite2 (λc1=>?_) λc1=>?_⟩
  ·have e:m=0:=by
    have:=of_decide_eq_true c1
    injection this with this
    omega
   subst e;exact Y true ⟨λ_=>Ap.zero R,λ_=>rfl⟩
  obtain⟨c,rfl⟩:∃c,m=c+1:=⟨m-1,by have:m≠0:=λe=>c1 (decide_eq_true (by rw[e];rfl));omega⟩
  refine⟨_,rfl,aX9 (enc:=tupS) (f:=λt=>D.int ((t.length:Nat):Int)) (λt j Q q=>⟨_,rfl,by rw[ah];exact q⟩) (z9999 (by show 0+R.length<=_;omega)) (.inr (.inl ⟨R.map λt=>(t.length:Int),by rw[bP,bI];rfl,?_⟩))⟩
  refine⟨((c+1:Nat):Int),rfl,?_⟩;have ec:cutD ((srI (R.map λt=>(t.length:Int))).map D.int) none (some ((c+1:Nat):Int))=((srI (R.map λt=>(t.length:Int))).take (c+1)).map D.int:=by rw[bZw,jw]
  refine⟨_,rfl,?_⟩;rw[ec];have sl:(srI (R.map λt=>(t.length:Int))).length=R.length:=by rw[(bZm _).length_eq,ah]
  have tl:((srI (R.map λt=>(t.length:Int))).take (c+1)).length=min (c+1) R.length:=by rw[aM,sl]
  have sm:=λh=>Ap.small nd (λt j=>(he t j).1) (m:=c+1) h;generalize (srI (R.map λt=>(t.length:Int))).take (c+1)=L at tl sm;refine⟨_,rfl,_,rfl,ite2 (λc2=>?_) λc2=>?_⟩
  ·refine Y false ⟨(λz=>by cases z),λh=>?_⟩
   have:=(sm h).1
   have U:(((L.map D.int).length:Nat):Int)<((c+1:Nat):Int):=of_decide_eq_true c2;rw[ah] at U;omega
  refine⟨L,rfl,R,rfl,by omega,λt j=>(he t j).2,by omega,_,rfl,_,rfl,ite2 (λU=>?_) λU=>?_⟩
  ·refine Y false ⟨(λz=>by cases z),λh=>?_⟩
   have:=(sm h).2
   have c4:L.sum>((((nms R).map D.str).length:Nat):Int):=of_decide_eq_true U;rw[ah] at c4;omega
  have Z:R≠[]:=by
   rintro rfl;have U:¬ (((L.map D.int).length:Nat):Int)<((c+1:Nat):Int):=λh=>c2 (decide_eq_true h);rw[ah] at U;simp at tl;simp[tl] at U
  refine⟨R,rfl,Z,?_⟩;have ho:=eXg Z;have o12:=(he _ ho).2;refine⟨_,rfl,aQr (p:=λt=>mts t (shT R) && !has t (shT R)) (f:=tupS) (λt j Q q=>?_) (λt j _ Q q=>q) (z9999 (by show 0+R.length<=_;omega)) ?_⟩
  ·have q:=q;refine⟨Str,inferInstance,strE,t,shT R,tupS t,tupS (shT R),rfl,by decide,.inl rfl,.inl rfl,by omega,?_⟩
   cases e:mts t (shT R) with
   |true =>
    rw[e,fH] at q;exact⟨Str,inferInstance,strE,t,shT R,tupS t,tupS (shT R),rfl,by decide,.inl rfl,.inl rfl,by omega,q⟩
   |false =>
    rw[e,Bool.false_and] at q;exact q
  have key:Ap R (c+1)↔∃d∈shT R::R.filter (λt=>mts t (shT R) && !has t (shT R)),Ap (rsA R d) c:=by
   constructor
   ·intro h;rcases Ap.less ho h with h|⟨d,hd,h1,h2,h3⟩
    ·exact⟨_,ak,h⟩
    ·exact⟨d,ao _ (av.mpr ⟨hd,by rw[h1,h2];rfl⟩),h3⟩
   ·rintro⟨d,hd,h⟩;rcases aD.mp hd with rfl|hd
    ·exact Ap.more ho h
    ·exact Ap.more (av.mp hd).1 h
  have ci:∀d∈shT R::R.filter (λt=>mts t (shT R) && !has t (shT R)),d∈R:=λd hd=>by
   rcases aD.mp hd with rfl|hd
   ·exact ho
   ·exact(av.mp hd).1
  have cn:(shT R::R.filter (λt=>mts t (shT R) && !has t (shT R))).length<=15:=by
   have:=bf (λt=>mts t (shT R) && !has t (shT R)) R
   rw[aK];omega
  rw[bP];refine⟨z9999 (by show 1<=9999;decide),_,_,rfl,rfl,z9999 (by rw[ah];show 1+_<=9999;rw[aK] at cn;omega),(shT R::R.filter (λt=>mts t (shT R) && !has t (shT R))).map tupS,rfl,?_⟩
  generalize shT R::R.filter (λt=>mts t (shT R) && !has t (shT R))=cd at key ci cn;refine aZ8 (λi Γ S'=>∃x2 x3 x4 x5:Option D,Γ=[some (.tup (R.map tupS)),some (.int ((c+1:Nat):Int)),x2,x3,x4,x5]/\S'=S/\∀d∈cd.take i,¬ Ap (rsA R d) c) ⟨_,_,_,_,rfl,rfl,by simp⟩ ?_ ?_
  ·rintro i x Γ S' N O ⟨x2,x3,x4,x5,rfl,rfl,J⟩ hN;rw[aL,bR] at O;obtain⟨d,O,rfl⟩:=O;have hd:=ci d (am O);have d12:=(he d hd).2;have wl:(wo R [d]).length<=14:=Nat.le_trans (bf _ _) rl;refine⟨trivial,z9999 (by show 1<=9999;decide),List Str,inferInstance,setE,R,[d],.tup (R.map tupS),.tup [tupS d],rfl,by decide,.inl rfl,.inl rfl,by omega,wo R [d],d,rfl,by omega,by omega,?_⟩
   refine⟨rsA R d,c,?_,by omega,Nat.le_trans (bf _ _) wl,(nd.filter _).filter _,λt j=>he t (mem_rsA.mp j).1,Nat.le_trans (aXl (N:=nms R) λt j x O=>mem_nms.mpr ⟨t,(mem_rsA.mp j).1,O⟩) rn,λb hb=>?_⟩
   ·show [D.tup _,D.int (((c+1:Nat):Int)-1)]=_;rw[show(((c+1:Nat):Int)-1)=(c:Int) by omega];rfl
   ·cases b with
    |true=>exact Y true ⟨λ_=>key.mpr ⟨d,am O,hb.mp rfl⟩,λ_=>rfl⟩
    |false =>
     refine hN _ _ ⟨_,_,_,_,rfl,rfl,λd' hd'=>?_⟩;rw[cE,O] at hd';rcases aS.mp hd' with h|h
     ·exact J d' h
     ·rw[aH.mp h];exact λz=>by have:=hb.mpr z;cases this
  ·rintro Γ S' ⟨x2,x3,x4,x5,rfl,rfl,J⟩;rw[ah,cz] at J;refine⟨trivial,Y false ⟨(λz=>by cases z),λh=>?_⟩⟩
   obtain⟨d,hd,h⟩:=key.mp h;exact absurd h (J d hd)
theorem dJl(T:Tx K mg "so_many_apart" s_so_many_apart)(B:Bs mg)(d_meets:Df P w K mg base 2 "meets" ["one", "row"] (spU K aXa))(d_has_all:Df P w K mg base 2 "has_all" ["one", "row"] (spU K aZp))(d_names_of:Df P w K mg base 2 "names_of" ["sets"] (spU K aZu))(d_without_names:Df P w K mg base 2 "without_names" ["one", "row"] (spU K aQi))(d_without_row:Df P w K mg base 2 "without_row" ["sets", "row"] (spU K aQs)):∀n:Nat,Df P w K mg base (2+n) "so_many_apart" ["sets", "many"] (spU K (dXd n))
 |0=>T.df (λF=>F.binds λ_ _ _ _ _ _=>us2 λ_ _=>rfl) λF=>F.ok sc_so_many_apart (λvs H Q E ⟨_,_,_,_,_,_,⟨_,_,_,h,_⟩,_⟩=>absurd h (Nat.not_lt_zero _)) λj A outer s H vs Q z q ⟨_,_,_,_,_,_,⟨_,_,_,h,_⟩,_⟩=>absurd h (Nat.not_lt_zero _)
 |n+1=>eXh T B (d_meets.mono (Nat.le_add_right _ _)) (d_has_all.mono (Nat.le_add_right _ _)) (d_names_of.mono (Nat.le_add_right _ _)) (d_without_names.mono (Nat.le_add_right _ _)) (d_without_row.mono (Nat.le_add_right _ _)) (dJl T B d_meets d_has_all d_names_of d_without_names d_without_row n)
theorem aJk(T:Tx K mg "so_many_apart" s_so_many_apart)(B:Bs mg)(d_meets:Df P w K mg base 2 "meets" ["one", "row"] (spU K aXa))(d_has_all:Df P w K mg base 2 "has_all" ["one", "row"] (spU K aZp))(d_names_of:Df P w K mg base 2 "names_of" ["sets"] (spU K aZu))(d_without_names:Df P w K mg base 2 "without_names" ["one", "row"] (spU K aQi))(d_without_row:Df P w K mg base 2 "without_row" ["sets", "row"] (spU K aQs)):Df P w K mg base 10 "so_many_apart" ["sets", "many"] (spU K aZ9):=by
 exact dJl T B d_meets d_has_all d_names_of d_without_names d_without_row 8
end
abbrev s_link_of:Stmt:=top 8
theorem sc_link_of:FnScope ["sets", "row"] ["sets", "row"] (aQ5 s_link_of):=fsc
theorem fX0{ts:List (List Str)}{row:List Str}(nd:ts.Nodup)(hs:∀t∈ts,Srt t):((ts.filter λt=>has t row).map λt=>wo t row).Nodup:=by
 unfold gy;rw[bH];refine aJ ?_ (nd.filter _);intro a b G B q e;obtain⟨G,D⟩:=av.mp G;obtain⟨B,z⟩:=av.mp B;refine q ((hs a G).ext (hs b B) λn=>?_)
 by_cases j:n∈row
 ·exact⟨λ_=>has_iff.mp z n j,λ_=>has_iff.mp D n j⟩
 ·have:=mem_wo (one:=a) (row:=row) (x:=n)
  rw[e,mem_wo] at this;exact⟨λh=>(this.mpr ⟨h,j⟩).1,λh=>(this.mp ⟨h,j⟩).1⟩
def aXd:SpD:=λds S Q=>∃(ts:List (List Str)) (row:List Str),ds=[.tup (ts.map tupS),tupS row]/\ts.length<=20/\row.length<=9999/\(∀t∈ts,t.length<=9999)/\Q (.tup ((lnk ts row).map tupS)) S
section
variable{P:au}{w:aN}{K:ay}{mg:Str->Option ae}{base:bu}{pt cc:Addr}
theorem cX5(T:Tx K mg "link_of" s_link_of)(B:Bs mg)(d_has_all:Df P w K mg base 1 "has_all" ["one", "row"] (spU K aZp))(d_without_names:Df P w K mg base 1 "without_names" ["one", "row"] (spU K aQi)):Df P w K mg base 2 "link_of" ["sets", "row"] (spU K aXd):=by
 refine aZl T sc_link_of (λF=>F.binds λ_ _ _ _ _ _=>us2 λ_ _=>rfl) ?_ λf G A outer s H E j=>⟨_,(aQ3 (aQe (aZ2 rfl B.tuple (aQ0 (aX7 (b:=false) j rfl B.sorted (aQ0 (aZa (N':=["one", "row"]) (oc:=none) (b:=false) [0] [] rfl sc_link_of.nd (λ_ _ _=>aQf ..) (.own (.cap (i:=1) rfl (by decide +kernel) .nil)) (aQh rfl) (aZb (dv 0)) (cg_name (i:=0)) (λ_ _ _ _ _=>aQd (i:=0) (nd_ ["one", "row"]) rfl (a9 rfl) (.inr rfl)) (λ_ _ _ _ _=>aZg (by exact(aXr (aQ4 d_has_all j rfl (aQ0 (dv 0) (aQ0 (dv 1) aQ1)))))) aQn (λ_ _ _ _ _ _=>aQl rfl (by exact PD.o (aQ4 d_without_names j rfl (aQ0 (dv 0) (aQ0 (dv 1) aQ1)))))) aQ1)) aQ1)))),?_⟩
 ·rintro ds S Q ⟨z,row,rfl,_⟩;rfl
 ·rintro ds S Q ⟨z,row,rfl,hl,j,he,q⟩;refine⟨_,rfl,aQr (p:=λt=>has t row) (f:=λt=>tupS (wo t row)) (λt D Q q=>⟨Str,inferInstance,strE,t,row,tupS t,tupS row,rfl,by decide,.inl rfl,.inl rfl,j,q⟩) (λt D _ Q q=>⟨Str,inferInstance,strE,t,row,tupS t,tupS row,rfl,by decide,.inl rfl,.inl rfl,he t D,q⟩) (z9999 (by show 0+z.length<=_;omega)) ?_⟩
  exact .inr (.inr ⟨(z.filter λt=>has t row).map λt=>wo t row,by rw[bP,bI];rfl,_,rfl,aQg q⟩)
end
abbrev s_in_flower:Stmt:=top 16
theorem sc_in_flower:FnScope ["sets", "many", "one", "others", "core", "beside"] ["sets", "many", "one"] (aQ5 s_in_flower):=fsc
def aJg:SpD:=λds S Q=>∃(ts:List (List Str)) (m:Nat) (one:List Str),ds=[.tup (ts.map tupS),.int m,tupS one]/\2<=m/\m<=7/\ts.length<=14/\SrtT ts/\(∀t∈ts,Srt t/\t.length<=6)/\(nms ts).length<=12/\one∈ts/\∀b:Bool,(b=true↔∃s∈ch ts m,one∈s/\(coG s).isSome=true)->Q (.bl b) S
section
variable{P:au}{w:aN}{K:ay}{mg:Str->Option ae}{base:bu}{pt cc:Addr}
theorem bJ0(T:Tx K mg "in_flower" s_in_flower)(B:Bs mg)(d_without_names:Df P w K mg base 10 "without_names" ["one", "row"] (spU K aQi))(d_meet_of:Df P w K mg base 10 "meet_of" ["one", "other"] (spU K aJ9))(d_link_of:Df P w K mg base 10 "link_of" ["sets", "row"] (spU K aXd))(d_without_row:Df P w K mg base 10 "without_row" ["sets", "row"] (spU K aQs))(d_so_many_apart:Df P w K mg base 10 "so_many_apart" ["sets", "many"] (spU K aZ9)):Df P w K mg base 11 "in_flower" ["sets", "many", "one"] (spU K aJg):=by
 refine aZl T sc_in_flower (λF=>F.binds λ_ _ _ _ _ _=>us3 λ_ _ _=>rfl) ?_ λf cdv A outer s H E Z=>⟨_,(aQ2 (aQ9 (i:=3) sc_in_flower.nd rfl (a9 rfl) (aQ4 d_without_names Z rfl (aQ0 (dv 0) (aQ0 (bQ6 (aQ0 (dv 2) aQ1)) aQ1))))
  (aQ2 (aZw cK rfl (aZb (dQ2 (N':=["other", "one"]) (oc:=none) (b:=false) [0] [] Z rfl B.sorted rfl sc_in_flower.nd (λ_ _ _=>bXu ..) (.own (.cap (i:=2) rfl (by decide +kernel) .nil)) (aQh rfl) (aZb (dv 3)) (cg_name (i:=0)) (λ_ _ _ _ _=>aQd (i:=0) (nd_ ["other", "one"]) rfl (a9 rfl) (.inr rfl)) (λ_ _ _ _ _=>aZ7) dJe (λ_ _ _ _ _ _=>(bZs (kn:=bJv _ _ _) rfl (lt10 Z) rfl rfl rfl (by exact PD.o (aQ4 d_meet_of Z rfl (aQ0 (dv 1) (aQ0 (dv 0) aQ1)))))))) (aQk (i:=4) sc_in_flower.nd rfl (a9 rfl)) (aQ2 (aQ9 (i:=5) sc_in_flower.nd rfl (a9 rfl) (aQ4 d_without_row Z rfl (aQ0 (aQ4 d_link_of Z rfl (aQ0 (dv 3) (aQ0 (dv 4) aQ1))) (aQ0 (aQ4 d_without_names Z rfl (aQ0 (dv 2) (aQ0 (dv 4) aQ1))) aQ1))))
  (aQ3 (aXs (aXr (aQ4 d_so_many_apart Z rfl (aQ0 (dv 5) (aQ0 (dZl (dv 1) aQb) aQ1)))) (aQ3 (aQe e_bl)) aZ3))))
  (aQ3 (aQe e_bl)))),?_⟩
 ·rintro ds S Q ⟨J,m,one,rfl,_⟩;rfl
 ·rintro ds S Q ⟨J,m,one,rfl,m2,m7,l14,hs,he,n12,ho,q⟩;obtain⟨k,rfl⟩:∃k,m=k+1:=⟨m-1,by omega⟩
  have nd:=hs.nodup;have es:=λt j=>(he t j).1;have o6:=(he one ho).2;have iff:=eXc nd es ho (show 1<=k by omega)
  have tq:∀b:Bool,(b=true↔∃o∈wo J [one],Ap (wor (lkC (wo J [one]) (meG one o)) (wo one (meG one o))) k)->rtD Q (.bl b) S:=λb h=>aQg (q b (h.trans iff.symm));refine⟨z9999 (by show 1<=9999;decide),List Str,inferInstance,setE,J,[one],.tup (J.map tupS),.tup [tupS one],rfl,by decide,.inl rfl,.inl rfl,by omega,?_⟩
  have Ol:(wo J [one]).length<=14:=Nat.le_trans (bf _ _) l14;have Oe:∀t∈wo J [one],Srt t/\t.length<=6:=λt j=>he t (mem_wo.mp j).1;have On:(wo J [one]).Nodup:=nd.filter _;have Om:(nms (wo J [one])).length<=12:=Nat.le_trans (aXl (N:=nms J) λt j x G=>mem_nms.mpr ⟨t,(mem_wo.mp j).1,G⟩) n12;show dSeq _ _ _ [some (.tup (J.map tupS)),some (.int ((k+1:Nat):Int)),some (tupS one),some (.tup ((wo J [one]).map tupS)),none,none] S;clear iff q;generalize wo J [one]=O at Ol Oe On Om tq;refine⟨O.map tupS,rfl,aX8 (λi acc S'=>S'=S/\acc=(((O.take i)).map (meG one)).map tupS) ⟨rfl,rfl⟩ ?_ ?_⟩
  ·rintro i x acc S' N G ⟨rfl,rfl⟩ hN;rw[aL,bR] at G;obtain⟨o,G,rfl⟩:=G;have hi:=(aB.mp G).1;refine⟨trivial,one,o,rfl,by omega,meG one o,rfl,?_,hN _ _ ⟨rfl,?_⟩⟩
   ·rw[ah,ah,aM];omega
   ·rw[cE,G,aZ,aZ];rfl
  rintro acc S' ⟨rfl,rfl⟩;rw[ah,cz];refine⟨trivial,O.map (meG one),rfl,λout ond U=>⟨?_,λopw=>⟨_,rfl,?_⟩⟩⟩
  ·have:=ond.length_le_of_subset λt j=>(U t).mp j
   rw[ah] at this;omega
  refine aZ8 (λi Γ S2=>∃x4 x5:Option D,Γ=[some (.tup (J.map tupS)),some (.int ((k+1:Nat):Int)),some (tupS one),some (.tup (O.map tupS)),x4,x5]/\S2=S'/\∀c∈out.take i,¬ Ap (wor (lkC O c) (wo one c)) k) ⟨_,_,rfl,rfl,by simp⟩ ?_ ?_
  ·rintro i x Γ S2 N G ⟨x4,x5,rfl,rfl,Y⟩ hN;rw[aL,bR] at G;obtain⟨c,G,rfl⟩:=G;obtain⟨o,hoO,ec⟩:=aQ.mp ((U c).mp (am G));have c6:c.length<=6:=by rw[<- ec];exact Nat.le_trans (bf _ _) o6
   have sc:Srt c:=by rw[<- ec];exact(es one ho).filter _
   refine⟨trivial,O,c,rfl,by omega,by omega,λt j=>by have:=(Oe t j).2;omega,?_⟩
   have ll:(lkC O c).length<=14:=by
    unfold lkC;rw[(aZ5 _).length_eq,ah];exact Nat.le_trans (bf _ _) Ol
   have le:∀t∈lkC O c,∃o∈O,wo o c=t:=λt j=>by
    unfold lkC at j;rw[mem_srT,aQ] at j;obtain⟨o,h,e⟩:=j;exact⟨o,(av.mp h).1,e⟩
   have wm:∀{L:List (List Str)}{w t:List Str},t∈wor L w->t∈L:=λh=>(av.mp h).1;refine⟨Str,inferInstance,strE,one,c,tupS one,tupS c,rfl,by decide,.inl rfl,.inl rfl,by omega,lkC O c,wo one c,rfl,by omega,Nat.le_trans (bf _ _) (by omega),?_⟩
   refine⟨wor (lkC O c) (wo one c),k,?_,by omega,Nat.le_trans (bf _ _) ll,(dQg On λt j=>(Oe t j).1).filter _,λt j=>?_,?_,λb hb=>?_⟩
   ·show [D.tup _,D.int (((k+1:Nat):Int)-1)]=_;rw[show(((k+1:Nat):Int)-1)=(k:Int) by omega]
   ·obtain⟨o,h1,rfl⟩:=le t (wm j);exact⟨(Oe o h1).1.nodup.filter _,Nat.le_trans (bf _ _) (by have:=(Oe o h1).2;omega)⟩
   ·refine Nat.le_trans (aXl (N:=nms O) λt j x G=>?_) (by omega)
    obtain⟨o,h1,rfl⟩:=le t (wm j);exact mem_nms.mpr ⟨o,h1,(mem_wo.mp G).1⟩
   ·cases b with
    |true=>exact tq true ⟨λ_=>⟨o,hoO,by rw[ec];exact hb.mp rfl⟩,λ_=>rfl⟩
    |false =>
     refine hN _ _ ⟨_,_,rfl,rfl,λc' hc'=>?_⟩;rw[cE,G] at hc';rcases aS.mp hc' with h|h
     ·exact Y c' h
     ·rw[aH.mp h];exact λz=>by have:=hb.mpr z;cases this
  ·rintro Γ S2 ⟨x4,x5,rfl,rfl,Y⟩;rw[ah,cz] at Y;refine⟨trivial,tq false ⟨(λz=>by cases z),λ⟨o,h1,h2⟩=>?_⟩⟩
   exact absurd h2 (Y _ ((U _).mpr (aQ.mpr ⟨o,h1,rfl⟩)))
end
abbrev s_next_level:Stmt:=top 15
theorem sc_next_level:FnScope ["sets", "many", "cores", "left"] ["sets", "many"] (aQ5 s_next_level):=fsc
def aZv:SpD:=λds S Q=>∃(ts:List (List Str)) (m:Nat),ds=[.tup (ts.map tupS),.int m]/\2<=m/\m<=7/\ts.length<=14/\SrtT ts/\(∀t∈ts,Srt t/\t.length<=6)/\(nms ts).length<=12/\∀out,SrtT out->(∀r,r∈out↔(∃s∈ch ts m,coG s=some r)\/(r∈ts/\¬ ∃s∈ch ts m,r∈s/\(coG s).isSome=true))->Q (.tup (out.map tupS)) S
section
variable{P:au}{w:aN}{K:ay}{mg:Str->Option ae}{base:bu}{pt cc:Addr}
theorem bX2(T:Tx K mg "next_level" s_next_level)(B:Bs mg)(d_cores_of_two:Df P w K mg base 11 "cores_of_two" ["sets"] (spU K aX4))(d_so_many_apart:Df P w K mg base 11 "so_many_apart" ["sets", "many"] (spU K aZ9))(d_link_of:Df P w K mg base 11 "link_of" ["sets", "row"] (spU K aXd))(d_in_flower:Df P w K mg base 11 "in_flower" ["sets", "many", "one"] (spU K aJg)):Df P w K mg base 12 "next_level" ["sets", "many"] (spU K aZv):=by
 refine aZl T sc_next_level (λF=>F.binds λ_ _ _ _ _ _=>us2 λ_ _=>rfl) ?_ λf cdv A outer s H E G=>⟨_,(aQ2 (aXs (dZo G (dv 1) aQb) (aQ3 (aQe (dv 0))) aZ3)
  (aQ2 (bJr (i:=2) rfl (a9 rfl) (N':=["core", "sets", "many"]) (oc:=none) (b:=false) [0] [] rfl sc_next_level.nd (λ_ _ _=>aQf ..) (.own (.cap (i:=0) rfl (by decide +kernel) (.cap (i:=1) rfl (by decide +kernel) .nil))) (aQh rfl) (aZb (aQ4 d_cores_of_two G rfl (aQ0 (dv 0) aQ1))) (cg_name (i:=0)) (λ_ _ _ _ _=>aQd (i:=0) (nd_ ["core", "sets", "many"]) rfl (a9 rfl) (.inr rfl)) (λ_ _ _ _ _=>aZg (by exact(aXr (aQ4 d_so_many_apart G rfl (aQ0 (aQ4 d_link_of G rfl (aQ0 (dv 1) (aQ0 (dv 0) aQ1))) (aQ0 (dv 2) aQ1)))))) aQn (λ_ _ _ _ _ _=>aQl rfl (by exact PD.o (dv 0))))
  (aQ2 (bJr (i:=3) rfl (a9 rfl) (N':=["one", "sets", "many"]) (oc:=none) (b:=false) [0] [] rfl sc_next_level.nd (λ_ _ _=>aQf ..) (.own (.cap (i:=0) rfl (by decide +kernel) (.cap (i:=1) rfl (by decide +kernel) .nil))) (aQh rfl) (aZb (dv 0)) (cg_name (i:=0)) (λ_ _ _ _ _=>aQd (i:=0) (nd_ ["one", "sets", "many"]) rfl (a9 rfl) (.inr rfl)) (λ_ _ _ _ _=>aZg (by exact(bXp (aXr (aQ4 d_in_flower G rfl (aQ0 (dv 1) (aQ0 (dv 2) (aQ0 (dv 0) aQ1)))))))) aQn (λ_ _ _ _ _ _=>aQl rfl (by exact PD.o (dv 0))))
  (aQ3 (aQe (aZ2 rfl B.tuple (aQ0 (bJu (b:=false) G rfl B.sorted rfl B.set (aQp (k:=false) (dv 2) (dv 3))) aQ1))))))),?_⟩
 ·rintro ds S Q ⟨z,m,rfl,_⟩;rfl
 ·rintro ds S Q ⟨z,m,rfl,m2,m7,D,Z,he,Y,q⟩;have nd:=Z.nodup;have es:=λt j=>(he t j).1;refine⟨_,rfl,ite2 (λc1=>absurd (of_decide_eq_true c1) (by omega)) λ_=>?_⟩
  refine⟨z,rfl,D,λt j=>by have:=(he t j).2;omega,λcs so mem=>?_⟩
  have cl:cs.length<=91:=Nat.le_trans (so.nodup.length_le_of_subset λt j=>(mem t).mp j) (cZ9 z D)
  let pc:List Str->Bool:=λc=>(ch z m).any λs=>decide (coG s=some c)
  let pl:List Str->Bool:=λo=>(ch z m).any λs=>decide (o∈s)&&(coG s).isSome
  have O:∀c,pc c=true↔∃s∈ch z m,coG s=some c:=λc=>by simp[pc]
  have L:∀o,pl o=true↔∃s∈ch z m,o∈s/\(coG s).isSome=true:=λo=>by simp[pl]
  refine⟨_,rfl,aQr (p:=pc) (f:=tupS) (λc hc Q q=>?_) (λc hc _ Q q=>q) (z9999 (by show 0+cs.length<=_;omega)) ?_⟩
  ·have hm:=(mem c).mp hc;have c6:=dQ8 (n:=6) (λt j=>(he t j).2) hm;have sc:=(eX8 Z es hm).1;refine⟨z,c,rfl,by omega,by omega,λt j=>by have:=(he t j).2;omega,lkC z c,m,rfl,by omega,?_,dQg nd es,λt j=>?_,?_,λb hb=>?_⟩
   ·unfold lkC;rw[(aZ5 _).length_eq,ah];exact Nat.le_trans (bf _ _) D
   ·unfold lkC at j;rw[mem_srT,aQ] at j;obtain⟨o,h,rfl⟩:=j;have ho:=he o (av.mp h).1;exact⟨ho.1.nodup.filter _,Nat.le_trans (bf _ _) (by omega)⟩
   ·refine Nat.le_trans (aXl (N:=nms z) λt j x hx=>?_) (by omega)
    unfold lkC at j;rw[mem_srT,aQ] at j;obtain⟨o,h,rfl⟩:=j;exact mem_nms.mpr ⟨o,(av.mp h).1,(mem_wo.mp hx).1⟩
   ·have e:b=pc c:=c5.mpr (hb.trans ((eXb nd es m2 sc).trans (O c).symm));subst e;exact q
  rw[bP];refine⟨_,rfl,aQr (p:=λo=>!pl o) (f:=tupS) (λo ho Q q=>⟨z,m,o,rfl,m2,m7,D,Z,he,Y,ho,λb hb=>?_⟩) (λc hc _ Q q=>q) (z9999 (by show 0+z.length<=_;omega)) ?_⟩
  ·have e:b=pl o:=c5.mpr (hb.trans (L o).symm);subst e;exact q
  rw[bP];have f1:=bf pc cs;have f2:=bf (λo=>!pl o) z;refine⟨_,_,rfl,rfl,z9999 (by rw[ah,ah];omega),cs.filter pc++z.filter (λo=>!pl o),by show _=_;rw[aZ],by rw[ap];omega,λout ond J U=>⟨_,rfl,aQg (q out U λr=>?_)⟩⟩
  rw[J,aS,av,av,O];refine or_congr ⟨λh=>h.2,λh=>⟨?_,h⟩⟩ (and_congr_right λ_=>?_)
  ·obtain⟨s,h1,h2⟩:=h;exact(mem r).mpr (dXb nd es m2 h1 h2)
  ·rw[<- L,cN,ga]
end
abbrev s_levels_of:Stmt:=top 18
theorem sc_levels_of:FnScope ["sets", "many", "most", "levels", "level"] ["sets", "many", "most"] (aQ5 s_levels_of):=fsc
structure NX(m:Nat)(ts out:List (List Str)):Prop where
 srt:SrtT out
 mem:∀r,r∈out↔(∃s∈ch ts m,coG s=some r)\/(r∈ts/\¬ ∃s∈ch ts m,r∈s/\(coG s).isSome=true)
structure LvOk(ts:List (List Str)):Prop where
 len:ts.length<=14
 srt:SrtT ts
 each:∀t∈ts,Srt t/\t.length<=6
 nms:(nms ts).length<=12
abbrev flT(ts:List (List Str)):D:=.tup (ts.map tupS)
def aJh:SpD:=λds S Q=>∃(lv:Nat->List (List Str)) (n m most:Nat),ds=[flT (lv 0),.int m,.int most]/\2<=m/\m<=7/\n<=99/\1<=most/\most<=99/\(∀i,i<=n->LvOk (lv i))/\(∀i,i<n->NX m (lv i) (lv (i+1))/\lv (i+1)≠lv i)/\NX m (lv n) (lv n)/\Q (.lst ((aI (min most (n+1))).map λi=>flT (lv i))) S
section
variable{P:au}{w:aN}{K:ay}{mg:Str->Option ae}{base:bu}{pt cc:Addr}
theorem bJ1(T:Tx K mg "levels_of" s_levels_of)(B:Bs mg)(d_next_level:Df P w K mg base 12 "next_level" ["sets", "many"] (spU K aZv)):Df P w K mg base 13 "levels_of" ["sets", "many", "most"] (spU K aJh):=by
 refine aZl T sc_levels_of (λF=>F.binds λ_ _ _ _ _ _=>us3 λ_ _ _=>rfl) ?_ λf cdv A outer s H E G=>⟨_,(aQ2 (aQ9 (i:=3) sc_levels_of.nd rfl (a9 rfl) (aX0 (b:=true) (aQ0 (dv 0) aQ1)))
  (aQ2 (dZp cK (dZo G (bJp rfl B.len (aQ0 (dv 3) aQ1)) (dv 2)) (aQ2 (aQ9 (i:=4) sc_levels_of.nd rfl (a9 rfl) (aQ4 d_next_level G rfl (aQ0 (e_ix (dv 3) (fQk aQb)) (aQ0 (dv 1) aQ1))))
  (aQ2 (aXs (dZn G (dv 4) (e_ix (dv 3) (fQk aQb))) (aQ3 (aQe (dv 3))) aZ3)
  (aQ3 (bQ8 (bZk (dv 3) (aQ0 (dv 4) aQ1)))))))
  (aQ3 (aQe (dv 3))))),?_⟩
 ·rintro ds S Q ⟨lv,n,m,most,rfl,_⟩;rfl
 ·rintro ds S Q ⟨lv,n,m,most,rfl,m2,m7,Z,k1,k99,ok,nx,la,q⟩;refine⟨z9999 (by show 1<=9999;decide),λp U=>?_⟩
  refine⟨λk Γ S'=>∃(i:Nat) (O:Option D),k=most-i/\1<=i/\i<=most/\i<=n+1/\Γ=[some (flT (lv 0)),some (.int (m:Nat)),some (.int (most:Nat)),some (.ref p),O]/\S' p=some (.lst ((aI i).map λi=>flT (lv i)))/\∀b,b≠p->S' b=S b,⟨most-1,1,none,rfl,by omega,k1,by omega,rfl,aQ6,λb j=>supd_ne j⟩,?_⟩
  rintro k Γ S1 ⟨i,O,rfl,i1,im,i2,rfl,hf,off⟩;have kp:∀b o,S b=some o->S1 b=some o:=λb o e=>(off b (by rintro rfl;rw[U] at e;cases e)).trans e
  have ll:((aI i).map λi=>flT (lv i)).length=i:=by rw[ah,bF]
  refine⟨_,hf,_,rfl,?_⟩;have fin:min most (n+1)=i->rtD Q (.ref p) S1:=λe=>dJ8 (S':=S) hf kp U (by rw[<- e];exact q)
  refine ite2 (λc=>?_) λc=>?_
  ·have c1:i<most:=by
    have:(((aI i).map λi=>flT (lv i)).length:Int)<(most:Int):=of_decide_eq_true c
    rw[ll] at this;omega
   obtain⟨i',rfl⟩:∃i',i=i'+1:=⟨i-1,by omega⟩
   have al:atI ((aI (i'+1)).map λi=>flT (lv i)) (-1)=some (flT (lv i')):=by
    rw[dQ,aZ];exact dQx _ _
   have o:=ok i' (by omega)
   refine⟨_,_,hf,al,lv i',m,rfl,m2,m7,o.len,o.srt,o.each,o.nms,λout os z=>⟨_,_,hf,al,flE.ok 9 _ _ (by decide),_,rfl,ite2 (λe=>?_) λe=>?_⟩⟩
   ·have L:out=lv i':=aJ7 cZ3 (by have:=of_decide_eq_true e;injection this)
    have:¬ i'<n:=λh=>(nx i' h).2 ((nx i' h).1.srt.ext os (λr=>((nx i' h).1.mem r).trans (z r).symm) |>.trans L)
    exact fin (by omega)
   ·have Y:i' < n:=aR λh=>e (by
     have J:i'=n:=by omega
     subst J;rw[os.ext la.srt λr=>(z r).trans (la.mem r).symm];exact decide_eq_true rfl)
    have L:out=lv (i'+1):=os.ext (nx i' Y).1.srt λr=>(z r).trans ((nx i' Y).1.mem r).symm;refine⟨⟨_,hf⟩,_,hf,z9999 (by rw[ll];omega),most-(i'+2),by omega,i'+2,_,rfl,by omega,by omega,by omega,rfl,?_,λb j=>(supd_ne j).trans (off b j)⟩
    rw[aQ6,dQ (n:=i'+1),aZ,L];rfl
  ·have c1:¬ i<most:=λh=>c (decide_eq_true (show(((aI i).map λi=>flT (lv i)).length:Int)<(most:Int) by rw[ll];omega))
   exact fin (by omega)
end
end Toy
namespace L2
open PySem PySem.Spec PyProof.Rows
def EsAt(h:bu)(d:Addr)(es:Array DictEntry)(ep:Nat):Prop:=∃o,h.get? d=some o/\o.ExactDict/\o.data=.dict es ep
section
variable{prog:au}{w:aN}{A:bj}{E:ae->aj->Prop}{s:aj}{d it:Addr}{es:Array DictEntry}{ep i:Nat}
theorem EsAt.ty(x:EsAt s.heap d es ep):s.TypeIs (.ref d) "dict":=by
 obtain⟨o,e,c,_⟩:=x;exact⟨o,e,c.1⟩
end
section
variable{κ β:Type}[DecidableEq κ]
def valX(kvs:List (κ×β))(k:κ):Option β:=(kvs.find? λkv=>decide (kv.1=k)).map (·.2)
def putX(kvs:List (κ×β))(k:κ)(v:β):List (κ×β):=if (kvs.any λkv=>decide (kv.1=k))=true then kvs.map (λkv=>if kv.1=k then (kv.1,v) else kv) else kvs++[(k,v)]
theorem dXe{p:κ×β}{r:List (κ×β)}{k:κ}(e:p.1=k):valX (p::r) k=some p.2:=by simp[valX,dg,e]
theorem dXf{p:κ×β}{r:List (κ×β)}{k:κ}(e:¬ p.1=k):valX (p::r) k=valX r k:=by simp[valX,dg,e]
end
structure KnD(P:au)(w:aN)(K:Fg)(κ:Type)[DecidableEq κ] where
 knd:HeapKind P w κ
 enc:κ->D
 room:∀{A:bj},A.units+8<cB->knd.room A.in1
 key:∀{X:Cx}{pins:List (Addr×Obj)}{σ:St}{H:Hp}{s:aj}{M:Am}{k:κ}{b:Addr},X.prog=P->X.w=w->X.K=K->Inv X pins σ H s->RepV K M H (enc k) (.ref b)->knd.is s.heap k b
 ref:∀{M:Am}{H:Hp}{k:κ}{v:V},RepV K M H (enc k) v->∃b,v=.ref b
section
variable{P:au}{w:aN}{K:Fg}{κ:Type}[DecidableEq κ]
abbrev KX(N:KnD P w K κ)(M:Am)(H:Hp)(p:κ×V)(q:κ×Addr×ae):Prop:=p.1=q.1/\RepV K M H (N.enc p.1) (.ref q.2.1)/\RelV p.2 q.2.2
def DxV(N:KnD P w K κ)(o:Obj)(M:Am)(H:Hp)(a:Addr)(kw:List (κ×V)):Prop:=∃es ep,∃xs:List (κ×Addr×ae),H a=some (cdO a o)/\o.ExactDict/\o.data=.dict es ep/\es.toList=xs.map (entryOfKey N.knd)/\(xs.map (·.1)).Nodup/\kw.length<=sizeLine/\(a==fj)=false/\bi (KX N M H) kw xs
variable{N:KnD P w K κ}{M M':Am}{H H':Hp}{a:Addr}{o:Obj}{kw:List (κ×V)}
theorem DxV.keep(h:DxV N o M H a kw)(k:Keep M H M' H')(e:H' a=H a):DxV N o M' H' a kw:=by
 obtain⟨es,ep,xs,h1,h2,J,G,D,B,q,j⟩:=h;exact⟨es,ep,xs,e.trans h1,h2,J,G,D,B,q,Paired.imp (λ_ _ z=>⟨z.1,z.2.1.keep k,z.2.2⟩) j⟩
theorem dJm{xs:List (κ×Addr×ae)}(r:bi (KX N M H) kw xs)(k:κ):RelO (valV kw k) ((atKey xs k).map (·.2)):=by
 induction r with
 |nil=>exact True.intro
 |@cons p q ps j h t B =>
  obtain⟨h1,_,h2⟩:=h
  by_cases e:p.1=k
  ·have b:atKey (q::j) k=some q.2:=by simp[atKey,dg,h1.symm.trans e]
   rw[bZi e,b];exact h2
  ·have D:¬ q.1=k:=λz=>e (h1.trans z);have b:atKey (q::j) k=atKey j k:=by simp[atKey,dg,D]
   rw[bZj e,b];exact B
theorem dJn{xs:List (κ×Addr×ae)}(r:bi (KX N M H) kw xs)(k:κ){b:Addr}{y:V}{u:ae}(hb:RepV K M H (N.enc k) (.ref b))(ry:RelV y u):bi (KX N M H) (putK kw k y) (storedH xs k b u):=by
 have e:(kw.any λj=>decide (j.1=k))=(atKey xs k).isSome:=by rw[cQs,(dJm r k).isSome_eq,Option.isSome_map]
 unfold putK storedH;rw[e]
 by_cases q:(atKey xs k).isSome=true
 ·rw[if_pos q,if_pos q];clear e q
  induction r with
  |nil=>exact .nil
  |@cons p q ps G h t B =>
   rw[aU,aU];refine .cons ?_ B;obtain⟨h1,h2,D⟩:=h;unfold putAt
   by_cases e:p.1=k
   ·rw[if_pos e,if_pos (h1.symm.trans e)];exact⟨h1,h2,ry⟩
   ·rw[if_neg e,if_neg (λz=>e (h1.trans z))];exact⟨h1,h2,D⟩
 ·rw[if_neg q,if_neg q];exact bi.snoc r ⟨rfl,hb,ry⟩
theorem DxV.at{X:Cx}{pins:List (Addr×Obj)}{σ:St}{s:aj}(h:DxV N o M H a kw)(hP:X.prog=P)(hw:X.w=w)(hK:X.K=K)(I:Inv X pins σ H s) :
  s.heap.get? a=some o/\∃xs,s.heap.DictOfH N.knd a xs/\bi (KX N M H) kw xs:=by
 obtain⟨es,ep,xs,h1,h2,L,J,G,Z,Y,q⟩:=h;obtain⟨j,_⟩:=I.hok a _ h1;refine⟨j,xs,⟨o,es,ep,j,h2,L,J,λx D=>?_,G⟩,q⟩;obtain⟨p,U,B,z,O⟩:=ST.paired_mem' q x D;rw[<- B];exact N.key hP hw hK I z
theorem DxV.no(h:DxV N o M H a kw):o.ExactDict:=by
 obtain⟨es,ep,xs,h1,h2,_⟩:=h;exact h2
theorem DxV.lo(h:DxV N o M H a kw):(a==fj)=false:=by
 obtain⟨es,ep,xs,h1,h2,G,D,B,z,j,q⟩:=h;exact j
theorem DxV.len(h:DxV N o M H a kw):kw.length<=sizeLine:=by
 obtain⟨es,ep,xs,h1,h2,G,D,B,j,z,q⟩:=h;exact j
end
section
variable{X:Cx}{K:Fg}{κ:Type}[DecidableEq κ]{pos:Pos}{k:Nat}
theorem dXg{N:KnD X.prog X.w K κ}(M:Am):PE X (.Dict [] [] pos) (λ_ H Q=>∀p,H p=none->∀o,DxV N o M (upd H p (cdO p o)) p []->Q (.ref p) (upd H p (cdO p o))):=λpins s σ H Q I h=>by
 have j:(s.heap.push { cls:=.type "dict",data:=.dict #[] }).get? s.heap.objs.size=some { cls:=.type "dict",data:=.dict #[] }:=ar _ rfl;have lo:(s.heap.objs.size == fj)=false:=beq_eq_false_iff_ne.mpr (cA (Nat.ne_of_lt I.big));exact wpAny_Dict_empty ⟨.ref s.heap.objs.size,_,I.laid (a:=s.heap.objs.size) (o:=cdO s.heap.objs.size { cls:=.type "dict",data:=.dict #[] }) (t':=s.toks) (λ_ _ q=>ag _ q) (Nat.le_refl _) ⟨j,⟨_,j⟩,λg1 g2 g k=>k _ g⟩,rfl,
  h _ (I.hok.fresh (Nat.le_refl _)) _ ⟨#[],0,[],aQ8,⟨rfl,rfl,rfl⟩,rfl,rfl,eT,Nat.zero_le _,lo,.nil⟩⟩
def fJf{P:au}{w:aN}(N:KnD P w K κ)(td ty tx:TE):TE:=fun σ H Q=>td σ H λx H1=>(∃a o M kw,x=.ref a/\DxV N o M H1 a kw)/\ty σ H1 λy H2=>tx σ H2 λz H3=>∃a o M kw k,x=.ref a/\DxV N o M H3 a kw/\RepV K M H3 (N.enc k) y/\Q ((valV kw k).getD z) H3
theorem eXi{N:KnD X.prog X.w K κ}{o e f:Expr}{apos cpos:Pos}{td ty tx:TE}(hu:X.A.units+8<cB)(hK:X.K=K)(ho:PE X o td)(he:PE X e ty)(hf:PE X f tx)(m:M2 X o "get" apos e f cpos):PE X (.Call (.Attribute o "get" apos) [e,f] [] cpos) (fJf N td ty tx):=by
 intro pins s σ H Q I h;refine wpAny_Call_method m.base m.few m.line jN kg PySem.F.type_dict_get (thn (ho pins s σ H _ I h) λu s1 ⟨x,H1,L,Y,⟨a,D,M,kw,ex,d⟩,q1⟩=>?_);subst ex;obtain rfl:u=c8 a:=Y;obtain⟨G,_⟩:=d.at rfl rfl hK L;refine⟨⟨D,G,d.no.1⟩,λb q=>by cases q;exact⟨D,G,d.no.2.1⟩,?_⟩
 rw[m.trees];refine gK rfl (Calls.evalArgs_plain (gv (thn (he pins s1 σ H1 _ L q1) λiv s2 ⟨y,H2,I2,U,q2⟩ =>
  gv (thn (hf pins s2 σ H2 _ I2 q2) λfv s3 ⟨z,H3,j,O,a',ob',M',kw',k,ea,J,B,Z⟩=>jb ?_))))
 cases ea;obtain⟨b,rfl⟩:=N.ref B;cases (show iv=c8 b from U)
 obtain⟨g1,xs,dd,rel⟩:=J.at rfl rfl hK j;exact call_meetsIn kg dd.typeIs PySem.F.entry_dict_get (PySem.F.args_dict_get_3 _ _ _) (meetsH_dict_get_default N.knd a b J.lo fv) ⟨N.room hu,k,xs,N.key rfl rfl hK j B,dd,⟨_,H3,j.tok _,(dJm rel k).getD O,Z⟩⟩
def fJg{P:au}{w:aN}(N:KnD P w K κ)(td ty tv:TE):TS:=λD σ H=>tv σ H λv H1=>td σ H1 λx H2=>ty σ H2 λy H3=>∃a o M kw k,x=.ref a/\M a/\DxV N o M H3 a kw/\RepV K M H3 (N.enc k) y/\kw.length<sizeLine/\∀o',DxV N o' M (upd H3 a (cdO a o')) a (putK kw k v)->D.nx σ (upd H3 a (cdO a o'))
theorem eXj{N:KnD X.prog X.w K κ}{o i value:Expr}{pos':Pos}{td ty tv:TE}(hu:X.A.units+8<cB)(hK:X.K=K)(ho:PE X o td)(hi:PE X i ty)(hv:PE X value tv)(hs:g9 value (some (.Subscript o i pos')) pos.line X.env=pure false) :
  PS X (.Assign [.Subscript o i pos'] value pos) (fJg N td ty tv):=by
 intro pins s σ H D I h;refine wpAny_Assign_Subscript (thn (hv pins s σ H _ I h) λr s1 ⟨v,H1,I1,rv,q1⟩=>thn (ho pins s1 σ H1 _ I1 q1) λu s2 ⟨x,H2,I2,Z,q2⟩=>thn (hi pins s2 σ H2 _ I2 q2) λiv s3 ⟨y,U,O,Y,a,ob,M,kw,k,ex,hM,d,j,hl,q3⟩=>?_) hs;subst ex;obtain rfl:u=c8 a:=Z;obtain⟨b,rfl⟩:=N.ref j;cases (show iv=c8 b from Y)
 obtain⟨g1,xs,dd,rel⟩:=d.at rfl rfl hK O;have hz:xs.length<=sizeLine:=by rw[<- ca rel];exact d.len
 have J:(putK kw k v).length<=sizeLine:=by have:=bJq kw k v;omega
 obtain⟨_,_,_,hH,_⟩:=id d;refine wpAny_setItem_heap (hsz:=hz) (N.room hu) (N.key rfl rfl hK O j) dd λh' L B=>?_;obtain⟨q,es,ep,G,h2,h3,h4,_,h5⟩:=L;have kp:Keep M U M (upd U a (cdO a q)):=⟨λc oc hc e=>by rw[upd_ne (λz=>hc (by rw[z];exact hM))];exact e,λ_ h _=>h⟩
 refine⟨σ,_,cJq O (by rw[hH];exact True.intro) B ⟨q,G⟩ (ob:=cdO a q) ⟨G,⟨_,G⟩,λg1 g2 g k=>k _ g⟩,q3 q ⟨es,ep,_,aQ8,h2,h3,h4,h5,J,d.lo,Paired.imp (λ_ _ z=>⟨z.1,z.2.1.keep kp,z.2.2⟩) (dJn rel k j rv)⟩⟩
end
section
variable{P:au}{w:aN}{K:Fg}{κ:Type}[DecidableEq κ]{F:Am}{S:Sto}{H:Hp}{a:Addr}
abbrev PX(K:Fg)(M:Am)(H:Hp)(p:κ×V)(q:κ×D):Prop:=p.1=q.1/\RepV K M H q.2 p.2
def dxO(N:KnD P w K κ)(o:Obj)(kvs:List (κ×D)):DO:=.ex (λM H a=>∃kw,DxV N o M H a kw/\bi (PX K M H) kw kvs)
 (λM M' H H' a k e h=>by
  obtain⟨kw,h1,h2⟩:=h;exact⟨kw,h1.keep k e,Paired.imp (λ_ _ z=>⟨z.1,z.2.keep k⟩) h2⟩)
 λM H a h=>by
  obtain⟨kw,⟨es,ep,xs,h1,_⟩,_⟩:=h;exact⟨_,h1,trivial⟩
theorem fX1{M:Am}{kw:List (κ×V)}{kvs:List (κ×D)}(r:bi (PX K M H) kw kvs)(k:κ):(valV kw k=none/\valX kvs k=none)\/∃v d,valV kw k=some v/\valX kvs k=some d/\RepV K M H d v:=by
 induction r with
 |nil=>exact .inl ⟨rfl,rfl⟩
 |@cons p q ps B h t j =>
  by_cases e:p.1=k
  ·exact .inr ⟨_,_,bZi e,dXe (h.1.symm.trans e),h.2⟩
  ·rw[bZj e,dXf λz=>e (h.1.trans z)];exact j
theorem dJo{M:Am}{kw:List (κ×V)}{kvs:List (κ×D)}(l:bi (PX K M H) kw kvs)(k:κ){v:V}{d:D}(rv:RepV K M H d v):bi (PX K M H) (putK kw k v) (putX kvs k d):=by
 have j:(kw.any λq=>decide (q.1=k))=kvs.any λq=>decide (q.1=k):=by
  induction l with
  |nil=>rfl
  |cons h _ z=>rw[jv,jv,h.1,z]
 unfold putK putX;rw[j]
 split
 ·rename_i B;clear j B
  induction l with
  |nil=>exact .nil
  |@cons a b as bs h _ z =>
   refine .cons ?_ z;show(if a.1=k then (a.1,v) else a).1=(if b.1=k then (b.1,d) else b).1/\RepV K M H (if b.1=k then (b.1,d) else b).2 (if a.1=k then (a.1,v) else a).2
   rw[h.1]
   split
   ·exact⟨rfl,rv⟩
   ·exact h
 ·rename_i B;clear j B;exact bi.snoc l ⟨rfl,rv⟩
end
section
variable{X:Cx}{K:Fg}{κ:Type}[DecidableEq κ]{pos:Pos}{k:Nat}{P:au}{w:aN}
def fJh(N:KnD P w K κ):ED:=λ_ S Q=>∀p,S p=none->∀o,Q (.ref p) (supd S p (dxO N o []))
theorem eXk(N:KnD P w K κ)(hP:X.prog=P:=by rfl)(hw:X.w=w:=by rfl):PD K X (.Dict [] [] pos) (fJh N):=by
 subst hP hw;refine .of (dXg (N:=N) (λ_=>False)) fun σ H Q z=>z.el λF S Γ QD r g q c=>λp j o O=>?_;refine c (.ref p) (.ref p) _ (supd S p (dxO N o [])) (Ext.mk' j) (r.mk' j ⟨[],?_,.nil⟩) (by unfold RepV;rfl) (q p (r.sn j) o)
 obtain⟨es,ep,xs,h1,h2,L,J,G,D,B,h8⟩:=O;cases h8;exact⟨es,ep,[],h1,h2,L,J,G,D,B,.nil⟩
def fJi(N:KnD P w K κ)(td ty tx:ED):ED:=fun Γ S Q=>td Γ S λx S1=>(∃a o kvs,x=.ref a/\S1 a=some (dxO N o kvs))/\ty Γ S1 λy S2=>tx Γ S2 λz S3=>∃a o kvs k,x=.ref a/\S3 a=some (dxO N o kvs)/\y=N.enc k/\Q ((valX kvs k).getD z) S3
theorem dQj(N:KnD P w K κ){o e f:Expr}{apos cpos:Pos}{td ty tx:ED}(hr:Room k X.A)(ho:PD K X o td)(he:PD K X e ty)(hf:PD K X f tx)(hP:X.prog=P:=by rfl)(hw:X.w=w:=by rfl)(hK:X.K=K:=by rfl)(m:M2 X o "get" apos e f cpos:=by exact⟨rfl,rfl,rfl,rfl⟩) :
  PD K X (.Call (.Attribute o "get" apos) [e,f] [] cpos) (fJi N td ty tx):=by
 subst hP hw;refine .of (eXi (N:=N) (lt64 hr) hK ho.o he.o hf.o m) fun σ H Q z0=>z0.el λF S Γ QD r g q c=>⟨F,S,Γ,_,r,g,q,λv d H1 S1 B Z v1 ⟨⟨a,o,G,L,J⟩,q1⟩=>⟨?_,F,S1,Γ,_,Z,g.ext B,q1,λy dy H2 S2 Y r2 v2 q2=>⟨F,S2,Γ,_,r2,g.ext (B.trans Y),q2,λz dz H3 S3 U D v3 q3=>?_⟩⟩⟩
 ·subst L;obtain⟨kw,O,_⟩:=Z.obj a _ J;exact⟨a,o,_,kw,rref v1,O⟩
 ·obtain⟨a,o,G,k,L,J,e3,j⟩:=q3;subst L e3;obtain⟨kw,O,pp⟩:=D.obj a _ J;refine⟨a,o,_,kw,k,rref v1,O,v2.ext U,?_⟩;have cc:=Cn.shift c (B.trans (Y.trans U));rcases fX1 pp k with⟨h1,h2⟩|⟨v',d',h1,h2,h3⟩
  ·rw[h1];rw[h2] at j;exact cc.here D v3 j
  ·rw[h1];rw[h2] at j;exact cc.here D h3 j
def fJj(N:KnD P w K κ)(td ty tv:ED):SD:=λE Γ S=>tv Γ S λv S1=>td Γ S1 λx S2=>ty Γ S2 λy S3=>∃a o kvs k,x=.ref a/\S3 a=some (dxO N o kvs)/\y=N.enc k/\kvs.length<sizeLine/\∀o',E.nx Γ (supd S3 a (dxO N o' (putX kvs k v)))
theorem dQk(N:KnD P w K κ){o i value:Expr}{pos':Pos}{td ty tv:ED}(hr:Room k X.A)(ho:PD K X o td)(hi:PD K X i ty)(hv:PD K X value tv)(hP:X.prog=P:=by rfl)(hw:X.w=w:=by rfl)(hK:X.K=K:=by rfl)(hs:g9 value (some (.Subscript o i pos')) pos.line X.env=pure false:=by rfl) :
  PSD K X (.Assign [.Subscript o i pos'] value pos) (fJj N td ty tv):=by
 subst hP hw;refine .of (eXj (N:=N) (lt64 hr) hK ho.o hi.o hv.o hs) λD' σ H z0=>z0.el λF S Γ E r g q c=>⟨F,S,Γ,_,r,g,q,λv d H1 S1 O r1 v1 q1=>⟨F,S1,Γ,_,r1,g.ext O,q1,λx od H2 S2 L r2 v2 q2=>⟨F,S2,Γ,_,r2,g.ext (O.trans L),q2,λy dy H3 B J Y v3 ⟨a,o,D,k,e1,Z,e3,hz,q3⟩=>?_⟩⟩⟩;subst e1 e3;obtain⟨kw,dx,pp⟩:=Y.obj a _ Z;have j:B a≠none:=by rw[Z];exact λz=>by cases z
 refine⟨a,o,mt B F,kw,k,rref (v2.ext J),.inl j,dx,v3,by rw[ca pp];exact hz,λo' U=>?_⟩
 have G:Ext B H3 (supd B a (dxO N o' (putX D k d))) (upd H3 a (cdO a o')):=Ext.write j;have x:=O.trans (L.trans (J.trans G));have mm:∀ b,¬ mt B F b->¬ mt (supd B a (dxO N o' (putX D k d))) F b:=λb hb z=>hb (z.elim (λz=>by
  by_cases e:b=a
  ·rw[e];exact .inl j
  ·rw[supd_ne e] at z;exact .inl z) .inr)
 refine c.nx Γ _ σ _ x (Y.write j ⟨_,U.keep ⟨λ_ _ _ h=>h,λb h _=>mm b h⟩ rfl,?_⟩) (g.ext x) (q3 o');exact dJo (Paired.imp (λ_ _ z=>⟨z.1,z.2.ext G⟩) pp) k (v1.ext (L.trans (J.trans G)))
end
theorem dQl{α β:Type}{R:α->β->Prop}:∀{l:List α}{m:List β},bi R l m->∀(i:Nat) (b:β),m[i]?=some b->∃a,l[i]?=some a/\R a b
 |_,_,.nil,i,b,h=>by cases i <;> cases h
 |_,_,.cons r t,0,b,h=>by cases h;exact⟨_,rfl,r⟩
 |_,_,.cons r t,i+1,b,h=>dQl t i b h
theorem cZd{α β:Type}{R:α->β->Prop}:∀{l:List α}{m:List β},bi R l m->∀(i:Nat) (a:α),l[i]?=some a->∃b,m[i]?=some b/\R a b
 |_,_,.nil,i,b,h=>by cases i <;> cases h
 |_,_,.cons r t,0,b,h=>by cases h;exact⟨_,rfl,r⟩
 |_,_,.cons r t,i+1,b,h=>cZd t i b h
def tKN(P:au)(w:aN)(K:Fg):KnD P w K (List Str) where
 knd:=tupleKind (strKind P w)
 enc:=tupS
 room:=λh=>tupleKind_room_in1 (by omega)
 key:=λ{X pins σ H s M k b} e1 e2 e3 I r=>by
  subst e1 e2 e3;unfold tupS RepV at r;obtain⟨a,xs,e,t,l⟩:=r;cases e;obtain⟨its,ri,tp,_⟩:=I.tuple t.sq;obtain⟨b',e',hk⟩:=dZc (K:=X.K) (H:=H) (aJ5 l) ri tp;cases e';exact hk
 ref:=λ{M H k v} r=>by
  unfold tupS RepV at r;obtain⟨a,xs,e,_⟩:=r;exact⟨a,e⟩
end L2
namespace L2
open PySem PySem.SeqAt PyProof.Rows
inductive Qt(h:bu):Nat->ae->Prop
 |val {n:Nat}{v:ae}:iN v=true->Qt h n v
 |tup {n:Nat}{a:Addr}{xs:Array ae}:h.IsTuple a xs->(∀v∈xs.toList,Qt h n v)->Qt h (n+1) (.ref a)
section
variable{s:aj}{A:bj}{E:ae->aj->Prop}{w:aN}{prog:au}
theorem Qt.ok{n:Nat}{v:ae}{Q:Bool->aj->Prop}(x:Qt s.heap n v)(q:Q true s):aE (aF prog w) A (eqIsQuiet n v) Q E s:=by
 induction x generalizing Q with
 |val h=>rw[eqIsQuiet_byValue _ h];exact ad q
 |@tup n a xs t z j =>
  obtain⟨o,g,c,m,d⟩:=t;have ty:s.TypeIs (.ref a) "tuple":=⟨o,g,c⟩;unfold eqIsQuiet;refine aa (ix ty PySem.F.slot_tuple_eq.lookup (aa (hZ ty isSubtype_tuple_tuple ?_):aE _ _ (isInstance (.ref a) (.type "tuple")>>=_) _ _ s));rw[if_neg (by decide)]
  refine aa (dJ g d (aa ?_));rw[show((some xs).getD #[])=xs from rfl,<- gz]
  clear d z;generalize xs.toList=l at j ⊢
  induction l with
  |nil=>rw[iP];exact ad (ad q)
  |cons y l k =>
   rw[dP];refine aa (aa (j y (by simp) ?_))
   rw[if_neg (by decide)]
   exact ad (k λv h=>j v (by simp[h]))
end
def IsPr(P:au)(w:aN)(h:bu)(k:Nat×List Str)(a:Addr):Prop:=∃t b,h.IsTuple a #[.int k.1 t,.ref b]/\jU (strKind P w) h k.2 b
theorem cQ2{h:bu}{a:Addr}{xs ys:Array ae}(x:h.IsTuple a xs)(y:h.IsTuple a ys):xs=ys:=by
 obtain⟨o,g,_,n,d⟩:=x;obtain⟨o',g',_,j,d'⟩:=y;rw[g] at g';cases g';rw[d] at d';cases d'
 rfl
theorem fX2{P:au}{w:aN}{h:bu}{ks:List Str}{a:Addr}(x:jU (strKind P w) h ks a)(P':au)(w':aN):jU (strKind P' w') h ks a:=by
 obtain⟨o,xs,n,g,c,d,i⟩:=x;refine⟨o,xs,n,g,c,d,?_⟩;generalize xs.toList=l at i
 induction i with
 |nil=>exact .nil
 |cons z _ j=>exact .cons z j
theorem fJk{P:au}{w:aN}{h:bu}{ks:List Str}{a:Addr}(x:jU (strKind P w) h ks a):∃xs,h.IsTuple a xs/\∀v∈xs.toList,iN v=true:=by
 obtain⟨o,xs,n,g,c,d,i⟩:=x;exact⟨xs,⟨o,g,c,n,d⟩,i.byValue⟩
section
variable{P:au}{w:aN}
theorem IsPr.inj{h:bu}{a:Addr}{x y:Nat×List Str}(hx:IsPr P w h x a)(hy:IsPr P w h y a):x=y:=by
 obtain⟨t,b,h1,h2⟩:=hx;obtain⟨u,c,q,j⟩:=hy;have e:=cQ2 h1 q;have e:[iH x.1 t,.ref b]=[iH y.1 u,.ref c]:=congrArg Array.toList e;simp only[List.cons.injEq,iH.injEq,c8.injEq,and_true] at e;obtain⟨⟨z,_⟩,rfl⟩:=e;exact Prod.ext (by omega) (h2.inj j)
theorem IsPr.quiet{h:bu}{k:Nat×List Str}{a:Addr}(x:IsPr P w h k a):Qt h 8 (.ref a):=by
 obtain⟨t,b,h1,h2⟩:=x;obtain⟨xs,q,j⟩:=fJk h2;refine .tup h1 λv m=>?_;have m:v=.int k.1 t\/v=.ref b:=by simpa using m
 rcases m with rfl|rfl
 ·exact .val rfl
 ·exact .tup q λv m=>.val (j v m)
def dJp(P:au)(w:aN)(k:Nat×List Str):Int:=reduceHash (cv.Tuple.tupleHashOf [hashInt k.1,tupleKeyHash (strKind P w) k.2])
variable{s:aj}{A:bj}{E:ae->aj->Prop}
theorem IsPr.hash{k:Nat×List Str}{a:Addr}{Q:Int->aj->Prop}(hu:A.units+4<cB)(x:IsPr P w s.heap k a)(q:Q (dJp P w k) {s with toks:=s.toks+(k.2.length+3)}):aE (aF P w) A (pyHash (.ref a)) Q E s:=by
 obtain⟨t,b,⟨o,g,c,n,d⟩,h2⟩:=x;refine PySem.W.pyHash_slot (T:="tuple") ⟨o,g,c⟩ PySem.F.slot_tuple_hash PySem.F.entry_tuple_hash (PySem.F.args_tuple_hash_1 _) (beq_builtin_none _) (.inr (by omega)) ?_
 refine(aa (wpAny_tupleItemsOf g d ?_):aE _ _ (fR (.ref a)>>=_) _ _ s);refine aa ?_;rw[<- gz,dP];refine aa (aa (wpAny_pyHash_int (aa (ad (ad ?_)))));dsimp only;rw[dP];refine aa (aa (wpAny_pyHash_tuple (by show A.units+1<cB;omega) h2 (aa (ad (ad ?_)))))
 dsimp only;rw[iP];refine ad (aa (wpAny_mkInt (ad ⟨_,_,rfl,?_⟩)));have e:s.toks+1+(k.2.length+1)+1=s.toks+(k.2.length+3):=by omega
 dsimp only;rw[e];exact q
theorem IsPr.eq{x y:Nat×List Str}{a b:Addr}{Q:Bool->aj->Prop}(hu:A.units+6<cB)(hx:IsPr P w s.heap x a)(hy:IsPr P w s.heap y b)(q:Q (decide (x=y)) s):aE (aF P w) A (eqBool (.ref a) (.ref b)) Q E s:=by
 by_cases B:a=b
 ·subst B;rw[hx.inj hy,decide_eq_true rfl] at q;exact EqAt.same _ P w E Q q
 obtain⟨t,c,h1,h2⟩:=hx;obtain⟨u,e,U,O⟩:=hy;have z:EqAt A s (.ref a) (.ref b) _:=.of_refs B (.tuples (e:=λj=>if j=0 then (x.1:Int) == y.1 else decide (x.2=y.2)) h1 U (by omega) λj J j2=>by
  have J:j<2:=J;rcases j with _|_|j
  ·exact .int_int _ _ _ _
  ·intro G D E' Q' L;exact iO (knd:=strKind G D) (by show A.units+1<cB;omega) (fX2 h2 G D) (fX2 O G D) L
  ·omega)
 refine z P w E Q ?_;have Y:decide (x=y)=(((x.1:Int)==y.1)&&decide (x.2=y.2)):=by
  obtain⟨x1,x2⟩:=x;obtain⟨y1,Z⟩:=y;rw[c5];simp;omega
 rw[Y] at q;simpa [dQ] using q
def fX3(P:au)(w:aN):HeapKind P w (Nat×List Str) where
 is:=IsPr P w
 hash:=dJp P w
 draws:=λk=>k.2.length+3
 room:=λA=>A.units+6<cB
 inj:=λx y=>x.inj y
 keeps:=λ{h h' k a d o es ep} x ho hd hs=>by
  obtain⟨t,b,⟨o',g,c,n,e⟩,i⟩:=x;refine⟨t,b,⟨o',(hs.2 a λz=>?_).trans g,c,n,e⟩,i.keeps ho hd hs⟩;subst z;rw[g] at ho;cases ho;rw[e] at hd;cases hd
 pyHash:=λhu x q=>x.hash (by omega) q
 eqBool:=λhu x y q=>x.eq hu y q
 quiet:=λx q=>x.quiet.ok q
def prN(P:au)(w:aN)(K:Fg):KnD P w K (Nat×List Str) where
 knd:=fX3 P w
 enc:=λk=>.tup [.int k.1,tupS k.2]
 room:=λ{A} h=>by show A.units+1+6<cB;omega
 key:=λ{X pins σ H s M k b} e1 e2 e3 I r=>by
  subst e1 e2 e3;unfold RepV at r;obtain⟨a,xs,e,t,l⟩:=r;cases e;obtain⟨its,ri,tp,_⟩:=I.tuple t.sq;simp only[RepL] at l;obtain⟨x1,_,rfl,r1,x2,_,rfl,r2,rfl⟩:=l;cases ri with
  |cons u1 ri =>
  cases ri with
  |cons u2 ri =>
  cases ri;unfold RepV at r1;subst r1;obtain⟨b',rfl⟩:=(tKN X.prog X.w X.K).ref r2;obtain⟨tk,rfl⟩:=u1;cases (show _=c8 b' from u2)
  exact⟨tk,b',tp,(tKN X.prog X.w X.K).key rfl rfl rfl I r2⟩
 ref:=λ{M H k v} r=>by
  unfold RepV at r;obtain⟨a,xs,e,_⟩:=r;exact⟨a,e⟩
end
end L2
namespace L2
open PySem PySem.Spec PyProof.Rows
section
variable{prog:au}{w:aN}{A:bj}{E:ae->aj->Prop}{s:aj}{d it v:Addr}{es:Array DictEntry}{ep i:Nat}
theorem dXh{Q:ae->aj->Prop}(lo:(d==fj)=false)(x:EsAt s.heap d es ep)
  (q:Q (.ref s.heap.objs.size) {s with heap:=s.heap.push {cls:=.type "dict_items",data:=.fields #[.ref d]}}):aE (aF prog w) A (cv.«dict.items» ⟨[.ref d],[]⟩) (λf s'=>∃y,f=.done (.ret y)/\Q y s') E s:=by
 unfold cv.«dict.items» cv.Dict.noArgs;refine aa (aa (wpAny_notOrdered_dict x.ty (ad (?_:aE _ _ (kh d>>=_) _ _ s))));unfold kh;rw[if_neg (by rw[lo];decide)]
 exact aa (ad (aa (bA (ad ⟨_,rfl,q⟩))))
theorem bJ2{Q:ae->aj->Prop}(hv:s.heap.IsItemsView v d)(x:EsAt s.heap d es ep)
  (q:Q (.ref s.heap.objs.size) {s with heap:=s.heap.push {cls:=.type "dict_itemiterator",data:=.fields #[.none,.bool false,.ref d,.int 0 0,.int es.size 0,.int ep 0,.none,.none]}}):aE (aF prog w) A (jo (.ref v)) Q E s:=by
 have D:=hv.typeIs;obtain⟨G,j,_,z⟩:=hv;obtain⟨o,B,_,hd⟩:=x;refine wpAny_pyIter_slot D F.slot_dict_items_iter (b6 F.slot_dict_items_iter D F.entry_dict_items_iter (?_:_) (F.args_dict_items_iter_1 _));unfold cv.«dict_items.__iter__» cv.Dict_items.dictOf cv.Dict_items.newIterator;refine aa (ad (aa (aa (ef j z (x:=.ref d) rfl (ad (aa (aa (jl B hd (aa (wpAny_dictEpoch B hd ?_))))))))));simp only[show fG "dict_itemiterator"=true by decide,if_true]
 exact bA (ad ⟨_,rfl, "dict_itemiterator",_,⟨_,ar _ rfl,rfl⟩,F.slot_dict_itemiterator_next.lookup,by simpa [fI,gq] using q⟩) (by simp only[sizeOk,gq,aq,ap,aK,cu,bK];omega)
theorem bJ3{ok ov:ae}{Q:Option ae->aj->Prop}(hit:gB s.heap it d i es.size ep ok ov)(x:EsAt s.heap d es ep)(hi:i<es.size)
  (q:∀ h',IsItemIterOut h' it d (i + 1) es.size ep es[i].key es[i].val s.heap.objs.size->h'.get? s.heap.objs.size=some { cls:=.type "tuple",data:=.seq #[es[i].key,es[i].val] } ->
   h'.objs.size=s.heap.objs.size+1->(∀b o,b≠it->s.heap.get? b=some o->h'.get? b=some o)->Q (some (.ref s.heap.objs.size)) {s with heap:=h'}):aE (aF prog w) A (eV (.ref it)) Q E s:=by
 obtain⟨hp,g,dr,Z,os⟩:=s;obtain⟨od,hod,_,hdd⟩:=x;have J:kC ⟨hp,g,dr,Z,os⟩ (.ref it) ("dict_itemiterator":String):=⟨_,hit,rfl⟩;have own:=show fG "dict_itemiterator"=true by decide
 unfold eV;refine aa (ii (cL (name:=bo "__next__") J F.slot_dict_itemiterator_next (b6 F.slot_dict_itemiterator_next J F.entry_dict_itemiterator_next (?_:_) (F.args_dict_itemiterator_next_1 _))));refine aa (ad (aa (aa ?_)))
 first|refine aa (d7 J (ad (aa (gS hit rfl ?_))))|refine aa (eY J (ad (aa (gS hit rfl ?_))))
 simp only[own,if_true];refine(?_:aE _ _ (if (c8 d==ce)=true then _ else _) _ _ _)
 rw[if_neg (show ¬ ((c8 d==ce)=true) from λz=>by cases z)]
 refine aa (ad (aa (jl hod hdd ?_)));rw[if_neg (by simp)]
 refine aa (ad (aa (wpAny_dictEpoch hod hdd ?_)));rw[if_neg (by simp)]
 refine ad ?_;simp only[show ¬ ((i:Int)<0) by omega,if_false,b5,gg hi]
 refine aa ?_
 first|refine aa (d7 J (ad (aa (fC J ?_))))|refine aa (eY J (ad (aa (fC J ?_))))
 refine(?_:aE _ _ (ip (.ref it) 3 (fI ((i:Int)+1))>>=_) _ _ ⟨hp,g,dr,Z,os⟩);refine aa (bW hit (by simp) λh1 D j=>?_)
 have j:c9 it hp h1:=j;have D:gB h1 it d (i+1) es.size ep ok ov:=by
  unfold gB;rw[show((i+1:Nat):Int)=(i:Int)+1 by omega]
  simpa [fI] using D
 have hT1:kC ⟨h1,g,dr,Z,os⟩ (.ref it) "dict_itemiterator":=⟨_,D,rfl⟩;refine aa (bq (aa (fC hT1 (aa (fC hT1 ?_)))));refine(?_:aE _ _ (gW (.ref it) 6 es[i].key es[i].val) _ _ ⟨h1,g,dr,Z,os⟩);unfold gW Builtin.Dict_items.ownedTupleIsFree;have L:h1.objs.size=hp.objs.size:=j.1;have ne:hp.objs.size≠it:=Nat.ne_of_gt (aA hit);refine aa (wpAny_newTuple (?_:_));obtain⟨h2,e2⟩:∃h2,h2=h1.push {cls:=.type "tuple",data:=.seq #[es[i].key,es[i].val]}:=⟨_,rfl⟩;have B:gB h2 it d (i+1) es.size ep ok ov:=by rw[e2];exact ag _ D
 have ht2:h2.get? hp.objs.size=some {cls:=.type "tuple",data:=.seq #[es[i].key,es[i].val]}:=by rw[e2,<- L];exact ar _ rfl
 have hz2:h2.objs.size=hp.objs.size+1:=by rw[e2,cV,L]
 have hk2:∀b o,b≠it->hp.get? b=some o->h2.get? b=some o:=λb o G e=>by rw[e2];exact ag _ (j.extBut b o G e)
 rw[L];refine(?_:aE _ _ _ _ _ ⟨h1.push {cls:=.type "tuple",data:=.seq #[es[i].key,es[i].val]},g,dr,Z,os⟩);rw[<- e2];refine aa (aa (ef B rfl (x:=.none) rfl (ad ?_)));simp only[if_true];refine aa (ef B rfl (x:=ok) rfl (aa (ef B rfl (x:=ov) rfl (aa (bW B (by simp) λh3 Y hs3=>?_)))))
 have Y:gB h3 it d (i+1) es.size ep es[i].key ov:=Y;refine aa (bW Y (by simp) λh4 U hs4=>?_)
 have U:gB h4 it d (i+1) es.size ep es[i].key es[i].val:=U;refine aa (bW U (by simp) λh5 O hs5=>?_)
 have O:IsItemIterOut h5 it d (i+1) es.size ep es[i].key es[i].val hp.objs.size:=O;refine aa (bW O (by simp) λh6 he6 hs6=>?_)
 have up:∀b o,b≠it->h2.get? b=some o->h6.get? b=some o:=λb o G e=>gi hs6 b o G (gi hs5 b o G (gi hs4 b o G (gi hs3 b o G e)));have sz:h6.objs.size=h2.objs.size:=(show h6.objs.size=h5.objs.size from hs6.1).trans ((show h5.objs.size=h4.objs.size from hs5.1).trans ((show h4.objs.size=h3.objs.size from hs4.1).trans (show h3.objs.size=h2.objs.size from hs3.1)))
 exact aa (jj (ad (ad ⟨_,rfl,ad (q h6 he6 (up _ _ ne ht2) (sz.trans hz2) λb o G e=>up b o G (hk2 b o G e))⟩)))
theorem cQ3{ok ov:ae}{Q:Option ae->aj->Prop}(hh:A.handled=none)(hit:gB s.heap it d i es.size ep ok ov)(x:EsAt s.heap d es ep)(hi:es.size<=i)
  (q:∀h',bu.ExtBut it s.heap h'->Q none {s with heap:=h'}):aE (aF prog w) A (eV (.ref it)) Q E s:=by
 obtain⟨J,B,_,D⟩:=x;have j:s.TypeIs (.ref it) ("dict_itemiterator":String):=⟨_,hit,rfl⟩;have own:=show fG "dict_itemiterator"=true by decide
 unfold eV;refine aa (ii (cL (name:=bo "__next__") j F.slot_dict_itemiterator_next (b6 F.slot_dict_itemiterator_next j F.entry_dict_itemiterator_next (?_:_) (F.args_dict_itemiterator_next_1 _))));refine aa (ad (aa (aa ?_)))
 first|refine aa (d7 j (ad (aa (gS hit rfl ?_))))|refine aa (eY j (ad (aa (gS hit rfl ?_))))
 simp only[own,if_true];refine(?_:aE _ _ (if (c8 d==ce)=true then _ else _) _ _ s)
 rw[if_neg (show ¬ ((c8 d==ce)=true) from λz=>by cases z)]
 refine aa (ad (aa (jl B D ?_)));rw[if_neg (by simp)]
 refine aa (ad (aa (wpAny_dictEpoch B D ?_)));rw[if_neg (by simp)]
 refine ad ?_;simp only[show ¬ ((i:Int)<0) by omega,if_false,b5,Array.getElem?_eq_none hi]
 refine aa ?_
 first|refine aa (d7 j (ad (?_:aE _ _ (ip (.ref it) 2 .none>>=_) _ _ s)))|refine aa (eY j (ad (?_:aE _ _ (ip (.ref it) 2 .none>>=_) _ _ s)))
 refine aa (wpAny_setField hit rfl (by simp) ?_)
 exact ST.stopT (I:=it) hh λh' k=>q h' λb o G e=>k b o ((cb ..).extBut b o G e)
end
def Itm(a:Addr)(o:Obj)(bs:List Addr)(zs:List V):It:=⟨λi H=>H a=some (cdO a o)/\i<bs.length,λi H x H'=>∃p b z,H p=none/\x=.ref p/\H'=upd H p (.tup [.ref b,z])/\bs[i]?=some b/\zs[i]?=some z,λi H=>H a=some (cdO a o)/\bs.length<=i⟩
def ist(it a:Addr)(n ep:Nat)(i:Nat)(h:bu):Prop:=∃ok ov,gB h it a i n ep ok ov
theorem cX6{P:au}{w:aN}{K:Fg}{elts:List Expr}{x1:Nat}{pos:Pos}(a it:Addr)(hai:a≠it){o:Obj}{es:Array DictEntry}{ep:Nat}{bs:List Addr}{zs:List V}(hx:o.ExactDict)(hd:o.data=.dict es ep)(hb:es.toList.map (·.key)=bs.map c8)(hz:Vals zs (es.toList.map (·.val))):Turn P w K (.Tuple elts x1 pos) (Itm a o bs zs) [it] it (ist it a es.size ep) where
 mem:=by simp
 obj:=λi h st c L=>by
  have e:c=it:=by simpa using L
  subst e;obtain⟨ok,O,st⟩:=st;exact⟨_,st,λv z=>by cases z⟩
 keep:=λi h h' st k=>by
  obtain⟨ok,O,st⟩:=st;exact⟨ok,O,k it (by simp) _ st⟩
 item:=by
  intro X hP hw hK L i pins s σ H E I hf st hg;subst hP hw hK;obtain⟨ok,O,st⟩:=st;obtain⟨hH,hi⟩:=hg;obtain⟨ho,_⟩:=I.hok a _ hH;have hl:es.size=bs.length:=by have:=congrArg d9 hb;simpa using this
  have G:i<es.size:=by omega
  have hk:es[i].key=.ref bs[i]:=by
   have:=congrArg (λl=>l[i]?) hb
   rw[aL,aL,af hi,aW,gg G] at this;exact aO this
  have hzl:zs.length=es.size:=by have:=hz.length;simp at this;omega
  obtain⟨u,hu,ru⟩:=hz.get (af (show i<zs.length by omega))
  have eu:es[i].val=u:=by
   rw[aL,aW,gg G] at hu;exact aO hu
  refine bJ3 st ⟨o,ho,hx,hd⟩ G λh1 heo ht hsz hkp=>⟨_,rfl,?_⟩;refine wpAny_letOwnedTupleGo_items heo λh2 he2 B=>?_;have B:c9 it h1 h2:=B;have Y:it<s.heap.objs.size:=aA st;have U:∀c ob,c∉[it]->s.heap.get? c=some ob->h2.get? c=some ob:=λc ob n g=>by
   have n:c≠it:=by simpa using n
   exact B.extBut c ob n (hkp c ob n g)
  have j:H s.heap.objs.size=none:=I.hok.fresh (Nat.le_refl _);have nT:∀c ob,s.heap.get? c=some ob->c≠s.heap.objs.size:=λc ob g=>Nat.ne_of_lt (aA g);have nH:∀c ob,H c=some ob->c∉[it]:=λc ob g L=>by have:=(hf c L).1;rw[g] at this;cases this
  have D:h2.get? s.heap.objs.size=some {cls:=.type "tuple",data:=.seq #[.ref bs[i],u]}:=by
   rw[<- hk,<- eu];exact B.extBut _ _ (Nat.ne_of_gt Y) ht
  have hok:HOk X.prog X.w (upd H s.heap.objs.size (.tup [.ref bs[i],zs[i]])) h2:=λc ob g=>by
   by_cases hb:c=s.heap.objs.size
   ·subst hb;rw[aQ8] at g;cases g;exact⟨by rw[bK];show 2<=_;decide,[.ref bs[i],u],.cons rfl (.cons ru .nil),⟨_,D,rfl,0,rfl⟩,λo e=>by rw[D] at e;cases e;rfl⟩
   ·rw[upd_ne hb] at g;refine(I.hok c ob g).stay (λe w' J q=>?_) (λe q=>?_) λe ys q=>?_
    ·rcases J with rfl|J
     ·exact U _ _ (nH _ _ g) q
     ·exact U _ _ (nH _ _ J) q
    ·rw[upd_ne (aQ7 q j)];exact q
    ·rw[upd_ne (aQ7 q j)];exact q
  have un:Un (frs X.stack) [it] H (upd H s.heap.objs.size (.tup [.ref bs[i],zs[i]])) s.heap h2 :=
   ⟨λc ob g _ _ hb=>U c ob hb g,λc ob g _ _ hb=>⟨ob.slots,U c ob hb g⟩,λc ob g n _=>by rw[upd_ne (nT c ob g)];exact n,λc ob g hb=>⟨ob,U c ob hb g⟩,
    λc ys g=>by rw[upd_ne (aQ7 g j)];exact g,λc ob v g=>by rw[upd_ne (aQ7 g j)];exact g,λc ps g=>⟨#[],by rw[upd_ne (aQ7 g j),g];simp⟩⟩
  have I2:Inv X pins σ (upd H s.heap.objs.size (.tup [.ref bs[i],zs[i]])) {s with heap:=h2}:=I.call' (s':={s with heap:=h2}) rfl un hok I.bare λc hb=>by
   have Z:=hf c hb;exact⟨Z.2.2.2.1,Z.2.1,Z.2.2.2.2.1,Z.2.2.2.2.2⟩
  refine⟨.ref s.heap.objs.size,_,I2,rfl,⟨_,bs[i],zs[i],j,rfl,rfl,af hi,af (by omega)⟩,⟨_,_,he2⟩,λc hb=>?_⟩
  have e:c=it:=by simpa using hb
  subst e;rw[upd_ne (Nat.ne_of_lt Y)];exact(hf c hb).1
 done:=by
  intro X hP hw hK L i pins s σ H E I hf st hg;subst hP hw hK;obtain⟨ok,O,st⟩:=st;obtain⟨hH,hi⟩:=hg;obtain⟨ho,_⟩:=I.hok a _ hH;obtain⟨f0,f1,f2,f3,f4,f5⟩:=hf it (by simp)
  have hl:es.size=bs.length:=by have:=congrArg d9 hb;simpa using this
  exact cQ3 (I.ok.hd L) st ⟨o,ho,hx,hd⟩ (by omega) λh' eb=>⟨rfl,I.turned (t':=s.toks) (λb o hb e=>eb b o hb e) f0 f1 f3 f4 f5⟩
 self:=λA i s Q E st h=>by
  obtain⟨ok,O,st⟩:=st;exact PySem.W.kcp_self st h
section
variable{X:Cx}{K:Fg}{κ:Type}[DecidableEq κ]{pos:Pos}{k:Nat}{P:au}{w:aN}
theorem dXi{l:Expr}{tl:TE}{elts:List Expr}{x1:Nat}{tpos apos cpos:Pos}(hl:PE X l tl)(hbase:eM l "items" X.env (eval l X.env)=eval l X.env:=by rfl)(hline:(apos.endLine==cpos.line)=true:=by rfl) :
  PI X (.Tuple elts x1 tpos) (.Call (.Attribute l "items" apos) [] [] cpos) (fun σ H R=>tl σ H λx H1=>∃a o es ep bs zs,x=.ref a/\H1 a=some (cdO a o)/\o.ExactDict/\o.data=.dict es ep/\(a==fj)=false/\es.toList.map (·.key)=bs.map c8/\Vals zs (es.toList.map (·.val))/\R (Itm a o bs zs) H1):=by
 intro pins s σ H R I h;refine wpAny_Call_method hbase rfl hline jN jO PySem.F.type_dict_items (thn (hl pins s σ H _ I h) λv s1 ⟨x,H1,D,r1,L⟩=>?_);obtain⟨a,o,es,ep,bs,zs,e,hH,z,hd,lo,G,U,q⟩:=L;subst e;cases r1;obtain⟨B,_⟩:=D.hok a _ hH;have x0:EsAt s1.heap a es ep:=⟨o,B,z,hd⟩;refine⟨x0.ty,λb e=>by cases e;exact⟨o,B,z.2.1⟩,?_⟩
 have Z:cO cpos (aC [] X.env)=[]:=rfl;rw[Z];refine gK rfl (PySem.evalArgs_none ?_);refine b6 jO x0.ty PySem.F.entry_dict_items (dXh lo x0 ?_) (PySem.F.args_dict_items_1 _);have Y:bu.IsItemsView (s1.heap.push {cls:=.type "dict_items",data:=.fields #[.ref a]}) s1.heap.objs.size a:=⟨_,ar _ rfl,rfl,rfl⟩;have x1:EsAt (s1.heap.push {cls:=.type "dict_items",data:=.fields #[.ref a]}) a es ep:=⟨o,ag _ B,z,hd⟩;refine bJ2 (s:={s1 with heap:=s1.heap.push {cls:=.type "dict_items",data:=.fields #[.ref a]}}) Y x1 ?_
 have O:∀b o,s1.heap.get? b=some o->((s1.heap.push {cls:=.type "dict_items",data:=.fields #[.ref a]}).push {cls:=.type "dict_itemiterator",data:=.fields #[.none,.bool false,.ref a,.int 0 0,.int es.size 0,.int ep 0,.none,.none]}).get? b=some o:=λb o e=>ag _ (ag _ e);have j:(s1.heap.push {cls:=.type "dict_items",data:=.fields #[.ref a]}).objs.size=s1.heap.objs.size+1:=by simp[bu.push]
 have J:a<s1.heap.objs.size:=aA B;rw[j];refine⟨s1.heap.objs.size+1,[s1.heap.objs.size+1],_,_,H1,rfl,D.kept (t':=s1.toks) O,cX6 a (s1.heap.objs.size+1) (Nat.ne_of_lt (Nat.lt_succ_of_lt J)) z hd G U,?_,λb G=>?_,q⟩
 ·exact⟨.none,.none,by rw[<- j];exact ar _ rfl⟩
 ·have e:b=s1.heap.objs.size+1:=by simpa using G
  subst e;exact D.fpOk (Nat.le_succ _) (D.hok.fresh (Nat.le_succ _))
def eXl(N:KnD P w K κ)(te:ED):ID:=fun Γ S Q=>te Γ S λd S1=>∃a o kvs,d=.ref a/\S1 a=some (dxO N o kvs)/\Q (kvs.map λp=>.tup [N.enc p.1,p.2]) (λS'=>S' a=some (dxO N o kvs)) S1
theorem bJ4(N:KnD P w K κ){l:Expr}{tl:ED}{elts:List Expr}{x1:Nat}{tpos apos cpos:Pos}(hl:PD K X l tl)(hbase:eM l "items" X.env (eval l X.env)=eval l X.env:=by rfl)(hline:(apos.endLine==cpos.line)=true:=by rfl) :
  PID K X (.Tuple elts x1 tpos) (.Call (.Attribute l "items" apos) [] [] cpos) (eXl N tl):=.of (dXi hl.o hbase hline) fun σ H Q z0=>z0.el λF S Γ QD r g q c =>
 ⟨F,S,Γ,_,r,g,q,λv d H1 S1 x1 r1 v1 ⟨a,o,kvs,e1,e2,G⟩=>by
  subst e1;obtain⟨kw,⟨es,ep,xs,h1,h2,h3,Z,h5,h6,h7,Y⟩,pp⟩:=r1.obj a _ e2;have hb:es.toList.map (·.key)=(xs.map (·.2.1)).map c8:=by rw[Z,bI,bI];rfl
  have hz:Vals (kw.map (·.2)) (es.toList.map (·.val)):=by
   rw[Z,bI];clear Z hb pp h5 h6
   induction Y with
   |nil=>exact .nil
   |cons h _ ih=>exact .cons h.2.2 ih
  refine⟨a,o,es,ep,xs.map (·.2.1),kw.map (·.2),rref v1,h1,h2,h3,h7,hb,hz,c _ _ _ _ _ x1 r1 ⟨λF2 f S2 H2 x B U i d hd=>?_,λF2 f S2 H2 x B U=>?_⟩ G⟩
  ·obtain⟨J,⟨es2,ep2,D,L,_⟩,_⟩:=B.obj a _ U;rw[aL,bR] at hd;obtain⟨p,hp,rfl⟩:=hd;obtain⟨q,hq,G,q2⟩:=dQl pp i p hp;obtain⟨y,hy,y1,y2,y3⟩:=cZd Y i q hq;have j:(xs.map (·.2.1))[i]?=some y.2.1:=by rw[aL,hy];rfl
   have O:(kw.map (·.2))[i]?=some q.2:=by rw[aL,hq];rfl
   refine⟨⟨L,(aB.mp j).1⟩,λx' H3 ⟨a3,b,z,e3,e4,e5,e6,e7⟩=>?_⟩;subst e4 e5;rw[j] at e6;cases e6;rw[O] at e7;cases e7;rw[<- G];exact cQu B e3 (y2.keep (x.kpF f)) (q2.keep (x.kpF f))
  ·obtain⟨J,⟨es2,ep2,D,L,_⟩,_⟩:=B.obj a _ U;refine⟨L,?_⟩;rw[ah,ah,<- ca Y,ca pp];exact Nat.le_refl _⟩
end
section
variable{X:Cx}{K:Fg}{κ:Type}[DecidableEq κ]{pos:Pos}{P:au}{w:aN}
def fJl(N:KnD P w K κ)(tk tv:TE):TE:=fun σ H Q=>∀p,H p=none->∀o M,DxV N o M (upd H p (cdO p o)) p []->tk σ (upd H p (cdO p o)) λy H1=>tv σ H1 λv H2=>∃o1 M k,M p/\DxV N o1 M H2 p []/\RepV K M H2 (N.enc k) y/\∀o',DxV N o' M (upd H2 p (cdO p o')) p (putK [] k v)->Q (.ref p) (upd H2 p (cdO p o'))
theorem eXm{N:KnD X.prog X.w K κ}{ek ev:Expr}{tk tv:TE}(hu:N.knd.room X.A)(hK:X.K=K)(hk:PE X ek tk)(hv:PE X ev tv):PE X (.Dict [some ek] [ev] pos) (fJl N tk tv):=by
 intro pins s σ H Q I h;have O:(s.heap.push {cls:=.type "dict",data:=.dict #[]}).get? s.heap.objs.size=some {cls:=.type "dict",data:=.dict #[]}:=ar _ rfl;have lo:(s.heap.objs.size==fj)=false:=beq_eq_false_iff_ne.mpr (cA (Nat.ne_of_lt I.big));have I0:=I.laid (a:=s.heap.objs.size) (o:=cdO s.heap.objs.size {cls:=.type "dict",data:=.dict #[]}) (t':=s.toks) (λ_ _ q=>ag _ q) (Nat.le_refl _) ⟨O,⟨_,O⟩,λg1 g2 g k=>k _ g⟩;refine wpAny_Dict_any rfl rfl (by simp) (by simp) ?_
 refine evalPairs_cons (thn (hk pins _ σ _ _ I0 (h _ (I.hok.fresh (Nat.le_refl _)) _ (λ_=>False) ⟨#[],0,[],aQ8,⟨rfl,rfl,rfl⟩,rfl,rfl,eT,Nat.zero_le _,lo,.nil⟩)) λU s1 ⟨y,H1,I1,Y,q1⟩=>?_);refine aa (thn (hv pins s1 σ H1 _ I1 q1) λvv s2 ⟨v,H2,L,Z,o1,M,k,hM,d,B,q⟩=>aa (eK (ad (evalPairs_nil ?_))));obtain⟨b,rfl⟩:=N.ref B;cases (show U=c8 b from Y)
 obtain⟨g1,xs,dd,rel⟩:=d.at rfl rfl hK L;cases rel;obtain⟨_,_,_,hH,_⟩:=id d;unfold storeAll;rw[dP];refine aa (aa (wpAny_dictSet_heap (hsz:=Nat.zero_le _) hu (N.key rfl rfl hK L B) dd λh' J D=>ad ?_));dsimp only;rw[iP];refine ad ?_;obtain⟨j,es,ep,G,h2,h3,h4,_,h5⟩:=J;have kp:Keep M H2 M (upd H2 s.heap.objs.size (cdO s.heap.objs.size j)):=⟨λc oc hc e=>by rw[upd_ne (λz=>hc (by rw[z];exact hM))];exact e,λ_ h _=>h⟩
 exact⟨.ref s.heap.objs.size,_,cJq L (by rw[hH];exact True.intro) D ⟨j,G⟩ (ob:=cdO s.heap.objs.size j) ⟨G,⟨_,G⟩,λg1 g2 g k=>k _ g⟩,rfl,q j ⟨es,ep,_,aQ8,h2,h3,h4,h5,(by rw[bK];show 1<=_;decide),lo,Paired.imp (λ_ _ z=>⟨z.1,z.2.1.keep kp,z.2.2⟩) (dJn .nil k B Z)⟩⟩
def fJm(N:KnD P w K κ)(tk tv:ED):ED:=fun Γ S Q=>∀p,S p=none->∀o,tk Γ (supd S p (dxO N o [])) λd S1=>tv Γ S1 λe S2=>∃k o1,d=N.enc k/\S2 p=some (dxO N o1 [])/\∀o',Q (.ref p) (supd S2 p (dxO N o' (putX [] k e)))
theorem fX4(N:KnD P w K κ){ek ev:Expr}{tk tv:ED}(hu:N.knd.room X.A)(hk:PD K X ek tk)(hv:PD K X ev tv)(hP:X.prog=P:=by rfl)(hw:X.w=w:=by rfl)(hK:X.K=K:=by rfl):PD K X (.Dict [some ek] [ev] pos) (fJm N tk tv):=by
 subst hP hw;refine .of (eXm (N:=N) hu hK hk.o hv.o) fun σ H Q z0=>z0.el λF S Γ QD r g q c=>λp D o M dx=>?_;have x0:Ext S H (supd S p (dxO N o [])) (upd H p (cdO p o)):=Ext.mk' D;have r0:Rp K F (supd S p (dxO N o [])) (upd H p (cdO p o)):=r.mk' D ⟨[],by
  obtain⟨es,ep,xs,h1,h2,h3,h4,h5,h6,h7,h8⟩:=dx;cases h8;exact⟨es,ep,[],h1,h2,h3,h4,h5,h6,h7,.nil⟩,.nil⟩
 refine⟨F,_,Γ,_,r0,g.ext x0,q p (r.sn D) o,λy dy H1 S1 U r1 v1 q1=>⟨F,S1,Γ,_,r1,g.ext (x0.trans U),q1,λv dv H2 B O Y v2 ⟨k,o1,e1,Z,q2⟩=>?_⟩⟩;subst e1;obtain⟨kw,G,pp⟩:=Y.obj p _ Z;cases pp;have j:B p≠none:=by rw[Z];exact λz=>by cases z
 refine⟨o1,mt B F,k,.inl j,G,v1.ext O,λo' J=>?_⟩;have L:Ext B H2 (supd B p (dxO N o' (putX [] k dv))) (upd H2 p (cdO p o')):=Ext.write j;have mm:∀ b,¬ mt B F b->¬ mt (supd B p (dxO N o' (putX [] k dv))) F b:=λb hb z=>hb (z.elim (λz=>by
  by_cases e:b=p
  ·rw[e];exact .inl j
  ·rw[supd_ne e] at z;exact .inl z) .inr)
 exact c (.ref p) (.ref p) _ _ (x0.trans (U.trans (O.trans L))) (Y.write j ⟨_,J.keep ⟨λ_ _ _ h=>h,λb h _=>mm b h⟩ rfl,dJo .nil k (v2.ext L)⟩) (by unfold RepV;rfl) (q2 o')
theorem eXn{k:Nat}(hr:Room k X.A):(prN P w K).knd.room X.A:=by
 have:=lt64 (n:=6) hr
 show X.A.units+6<cB;omega
end
end L2
set_option maxHeartbeats 4000000
namespace HT
open PySem PyProof.Rows
theorem eXo(A:bj)(s:aj)(a:Str)(t:Tok)(c:Str)(u:Tok)(prog:au)(w:aN)(E:ae->aj->Prop)(Q:ae->aj->Prop)(h:Q (.bool (!ltS a c)) s) :
  aE (aF prog w) A (richCompare .GtE (.str a t) (.str c u)) Q E s :=
 (PySem.P.ge_str h:aE (aF prog w) A (cy .GtE (.str a t) (.str c u)) Q E s)
section
open PySem.SeqAt
open PySem.AutoSeq1 (wpAny_loadPart')
open PySem.MeetsSeq PySem.MeetsSeq2 PySem.MeetsSeq3
theorem bX3(l b:Addr)(items items2:Array ae)(n n2:Nat)(dd dd2:Option Addr)(sl sl2:Array (Option ae))(ns ms:List Str)(hi:SAre items.toList ns)(hj:SAre items2.toList ms) :
  Meets (cv.«tuple.__ge__» ⟨[.ref l,.ref b],[]⟩)
   (λ_ R s=>s.heap.get? l=some { cls:=.type "tuple",dict:=dd,data:=.seq items n,slots:=sl }/\s.heap.get? b=some { cls:=.type "tuple",dict:=dd2,data:=.seq items2 n2,slots:=sl2 } /\
    R (.ok (.ret (.bool (!lexS ns ms)))) s) :=
 .of_wp λprog w A R s h=>by
  obtain⟨Y,g,d,U,os⟩:=s;obtain⟨hl,hb,h⟩:=h;have f2:=jr;have z1:items.size=ns.length:=by rw[<- hi.len];simp
  have z2:items2.size=ms.length:=by rw[<- hj.len];simp
  wp_walk using fb hl,fb hb,hW _ (λrest b s'=>b.1=none/\s'=⟨Y,g,d,U,os⟩/\∃ (vs ws:List ae) (j z:List Str),rest=vs.zip ws /\
   SAre vs j/\SAre ws z/\j.length+items2.size=z.length+items.size/\R (.ok (.ret (.bool (!lexS j z)))) ⟨Y,g,d,U,os⟩) _
  case turn =>
   rintro⟨y,x⟩ rest b s' ⟨J,rfl,vs,ws,j,z,hz,hvi,hwi,hlen,D⟩;cases hvi with
   |nil=>rw[jf] at hz;cases hz
   |@cons va a _ _ ha O =>
    obtain⟨t,rfl⟩:=ha;cases hwi with
    |nil=>rw[iT] at hz;cases hz
    |@cons vc c _ _ hc L =>
     obtain⟨u,rfl⟩:=hc;rw[d6] at hz;injection hz with Z G
     injection Z with hy hx
     subst hy hx;rw[lexS_cons] at D;simp only[aK] at hlen;obtain⟨e,he,B⟩:=cXz A.in1 ⟨Y,g,d,U,os⟩ a t c u;refine aa (he prog w _ _ ?_);cases e with
     |true =>
      rw[if_pos (B.mp rfl)] at D
      wp_walk
      exact⟨rfl,rfl,_,_,_,_,G,O,L,by lia,D⟩
     |false =>
      rw[if_neg (λq=>absurd (B.mpr q) bz)] at D;have hri:=eXo A.in1 ⟨Y,g,d,U,os⟩ a t c u prog w
      wp_walk using hri
      exact⟨_,rfl,by simpa using D⟩
  case fin =>
   rintro⟨b1,b2⟩ s' ⟨J,rfl,vs,ws,j,z,hz,hvi,hwi,hlen,D⟩;simp only at J;subst J;have hv:(!lexS j z)=decide (items2.size<=items.size):=by
    cases hvi with
    |nil =>
     cases hwi with
     |nil =>
      simp only[cu] at hlen;rw[aJc];exact(decide_eq_true (by lia)).symm
     |cons hc hw =>
      simp only[cu,aK] at hlen;rw[lexS_nil_cons];exact(decide_eq_false (by lia)).symm
    |cons ha hv =>
     cases hwi with
     |nil =>
      simp only[cu,aK] at hlen;rw[lexS_cons_nil];exact(decide_eq_true (by lia)).symm
     |cons hc hw =>
      rw[d6] at hz;cases hz
   rw[hv] at D
   wp_walk
   exact⟨_,rfl,by simpa [gY] using D⟩
  case h =>
   exact⟨rfl,rfl,items.toList,items2.toList,ns,ms,rfl,hi,hj,by lia,h⟩
end
section
variable{prog:au}{w:aN}{A:bj}{E:ae->aj->Prop}{s:aj}
theorem ge_tupStrs{l b:Addr}{items items2:Array ae}{ns ms:List Str}{Q:ae->aj->Prop}(hl:i8 s.heap l items)(hb:i8 s.heap b items2)(hi:SAre items.toList ns)(hj:SAre items2.toList ms)
  (hu:A.units<cB) (h:Q (.bool (!lexS ns ms)) s):aE (aF prog w) A (cy .GtE (.ref l) (.ref b)) Q E s:=by
 obtain⟨⟨cls,dd,data,sl⟩,D,G,n,hd⟩:=id hl;obtain⟨⟨J,B,data2,z⟩,j,q,L,hd2⟩:=id hb;simp only at G hd q hd2;subst G hd q hd2;exact richCompare_meets_room (op:=.GtE) ⟨_,D,rfl⟩ ⟨_,j,rfl⟩ PySem.F.slot_tuple_ge PySem.F.entry_tuple_ge (PySem.F.args_tuple_ge_2 _ _) (bX3 l b items items2 n L dd B sl z ns ms hi hj)
  ⟨D,j,show kD (!lexS ns ms)≠Value.notImplemented/\Q (.bool (!lexS ns ms)) s from⟨(λx=>nomatch x),h⟩⟩ hu
end
end HT
namespace L2
open PySem PySem.Spec PyProof.Rows
section
variable{X:Cx}{K:Fg}{pos:Pos}{k:Nat}
def rGeT(K:Fg):R2:=λx y H Q=>∃d e,dT K dS H x d/\dT K dS H y e/\Q (.bl (!HT.lexS d e)) H
theorem fX5(hu:X.A.units<cB)(hK:X.K=K:=by rfl):OpR X (cy .GtE) (rGeT K):=by
 subst hK;intro pins s σ H x y v u Q I rx ry h;obtain⟨d,e,⟨a,xs,rfl,U,G⟩,⟨b,ys,rfl,O,D⟩,q⟩:=h;cases rx;cases ry;obtain⟨L,B,J,_⟩:=I.tuple U;obtain⟨j,z,p2,_⟩:=I.tuple O;exact HT.ge_tupStrs J p2 (aXj G B) (aXj D z) hu ⟨.bl (!HT.lexS d e),H,I,rfl,q⟩
def geTD:R2D:=λd e S Q=>∃a b:List Str,d=tupS a/\e=tupS b/\Q (.bl (!HT.lexS a b)) S
theorem fX6:OpD K (rGeT K) geTD:=by
 intro F S H d e x y Q QD r hd he h c;obtain⟨a,b,rfl,rfl,q⟩:=h;have one:∀{t:List Str}{v:V},RepV K (mt S F) H (tupS t) v->dT K dS H v t:=λ{t v} h=>by
  unfold tupS RepV at h;obtain⟨p,us,rfl,tt,l⟩:=h;exact⟨p,us,rfl,tt.sq,aJ5 l⟩
 exact⟨a,b,one hd,one he,c.bl r q⟩
theorem fX7{a b:Expr}{ta tb:ED}(hr:Room k X.A)(ha:PD K X a ta)(hb:PD K X b tb)(hK:X.K=K:=by rfl):PTD K X (.Compare a [.GtE] [b] pos) (aXq (dOp geTD ta tb)):=aJd (fX5 (lt10 (n:=0) hr) hK) fX6 ha hb (nomark _)
end
end L2
set_option maxHeartbeats 1000000
namespace L2
open PySem PySem.Spec PyProof.Rows
section
variable{K:Fg}
theorem eXp{L:List Nat}{i j k:Nat}(hi:i∉j::k::L:=by decide)(hj:j∉k::L:=by decide)(hk:k∉L:=by decide):CG K (i::j::k::L) L (gTup K 2 (bJ5 (gTup K 2 (bJ5 (bQl i) (bJ5 (bQl j) gNil))) (bJ5 (bQl k) gNil))) (cZv 2 (aX2 (cZv 2 (aX2 (aQq i) (aX2 (aQq j) cZu))) (aX2 (aQq k) cZu))):=λF S H Γ σ d v Q QD f r g U q c=>by
 cases d with
 |tup ds =>
  obtain⟨p,us,rfl,sq,l⟩:=tup.st U;obtain⟨hl,q⟩:=q
  match ds,hl,q with
  |[d1,d2],_,q =>
   obtain⟨v1,v2,rfl,Z,Y⟩:=l.two;cases d1 with
   |tup es =>
    obtain⟨J,O,rfl,B,l'⟩:=tup.st Z;obtain⟨D,q⟩:=q
    match es,D,q with
    |[e1,e2],_,q =>
     obtain⟨z,G,rfl,s1,s2⟩:=l'.two;have f1:Free (j::k::L) (σ.set i (some z)):=f.set hi;have f2:Free (k::L) ((σ.set i (some z)).set j (some G)):=f1.set hj;exact⟨p,_,rfl,sq,rfl,.ref J,_,rfl,J,_,rfl,B,rfl,z,_,rfl,G,_,rfl,rfl,v2,_,rfl,rfl,c _ S _ H (Ext.refl _ _) r (((g.set s1 i).set s2 j).set Y k) (((cZl (f i ak)).trans (cZl (f1 j ak))).trans (cZl (f2 k ak))) (f2.set hk) q.2.2⟩
   |_=>exact q.elim
 |_=>exact q.elim
end
end L2
namespace Toy
open PySem L2
abbrev s_count_apart:Stmt:=top 12
theorem sc_count_apart:FnScope ["sets", "many", "counted", "one", "ways", "size", "taken", "number", "shut", "longer"] ["sets", "many"] (aQ5 s_count_apart):=fsc
def kE(l:List ((Nat×List Str)×Nat)):List ((Nat×List Str)×D):=l.map λp=>(p.1,D.int (p.2:Nat))
theorem dJq(l:List ((Nat×List Str)×Nat))(k:Nat×List Str):(valX (kE l) k).getD (D.int 0)=D.int (valK l k:Nat):=by
 unfold kE valK valX
 induction l with
 |nil=>rfl
 |cons p l j =>
  rw[aU,dg,dg]
  by_cases h:p.1=k
  ·simp[h]
  ·simpa [h] using j
theorem dJr(l:List ((Nat×List Str)×Nat))(k:Nat×List Str)(n:Nat):putX (kE l) k (D.int ((valK l k+n:Nat):Int))=kE (addK l k n):=by
 unfold putX addK kE;have e:((l.map λp=>(p.1,D.int (p.2:Nat))).any λj=>decide (j.1=k))=l.any λp=>decide (p.1=k):=by rw[List.any_map];rfl
 rw[e]
 split
 ·rw[bI,bI];refine eG λp _=>?_;show(if p.1=k then (p.1,D.int ((valK l k+n:Nat):Int)) else (p.1,D.int (p.2:Nat)))=_
  show _=((if p.1=k then (p.1,valK l k+n) else p).1,D.int ((if p.1=k then (p.1,valK l k+n) else p).2:Nat))
  by_cases h:p.1=k
  ·rw[if_pos h,if_pos h]
  ·rw[if_neg h,if_neg h]
 ·rw[aZ];rfl
theorem cZe{l:List ((Nat×List Str)×Nat)}{k:Nat×List Str}{n:Nat}{e:Nat×List Str}(h:e∈(addK l k n).map (·.1)):e∈l.map (·.1)\/e=k:=by
 rw[bQh] at h
 split at h
 ·exact .inl h
 ·rcases aS.mp h with h|h
  ·exact .inl h
  ·exact .inr (aH.mp h)
theorem eXq(a b:Nat):decide (D.int (a:Nat)=D.int (b:Nat))=decide (a=b):=decide_eq_decide.mpr ⟨λh=>by injection h with h;omega,λh=>by rw[h]⟩
theorem dXj(l:List ((Nat×List Str)×Nat)):(l.map λq=>(q.2:Int)).sum=(((l.map (·.2)).sum:Nat):Int):=by
 induction l with
 |nil=>rfl
 |cons q l j=>rw[aU,cT,aU,cT,j];omega
theorem cQ4{many:Nat}{G:Sto->Prop}{S:Sto}{Q:List D->Sto->Prop}(hG:G S):∀(l:List ((Nat×List Str)×Nat)) (acc:List D),acc.length+l.length<=99999->Q (acc++(l.filter λq=>decide (q.1.1=many)).map λq=>D.int (q.2:Nat)) S ->
  aZd (cZv 2 (aX2 (cZv 2 (aX2 (aQq 0) (aX2 (aQq 1) cZu))) (aX2 (aQq 2) cZu))) (aXq (dOp (eqD false) (dVar 0) (dVar 3))) (bQb (dVar 2)) G [none,none,none,some (D.int (many:Nat))] ((kE l).map λq=>.tup [.tup [.int (q.1.1:Nat),tupS q.1.2],q.2]) acc S Q
 |[],acc,_,q=>⟨hG,by simpa using q⟩
 |((size,taken),n)::l,acc,j,q=>by
  rw[aK] at j;refine⟨hG,rfl,rfl,rfl,rfl,rfl,_,rfl,?_⟩;have e:(if false=true then !decide (D.int (size:Nat)=D.int (many:Nat)) else decide (D.int (size:Nat)=D.int (many:Nat)))=decide (size=many):=eXq size many
  rw[eR] at q
  by_cases c:size=many
  ·rw[if_pos (decide_eq_true c)] at q;refine ite2 (λ_=>⟨by rw[bK];omega,cQ4 hG l _ (by rw[ap];show _+1+_<=_;omega) (by rw[bd];exact q)⟩) λz=>absurd (e.trans (decide_eq_true c)) z
  ·rw[if_neg (by simpa using c)] at q
   exact ite2 (λz=>absurd (of_decide_eq_true (e.symm.trans z)) c) λ_=>cQ4 hG l _ (by omega) q
def aXg:SpD:=λds S Q=>∃(ts:List (List Str)) (many:Nat),ds=[.tup (ts.map tupS),.int many]/\ts.length<=14/\SrtT ts/\(∀t∈ts,Srt t/\t.length<=6)/\Q (.int (apP (λa b=>!mts b a) (λ_=>true) ts many:Nat)) S
section
variable{P:au}{w:aN}{K:ay}{mg:Str->Option ae}{base:bu}{pt cc:Addr}
theorem bQr(T:Tx K mg "count_apart" s_count_apart)(B:Bs mg)(d_meets:Df P w K mg base 1 "meets" ["one", "row"] (spU K aXa)):Df P w K mg base 2 "count_apart" ["sets", "many"] (spU K aXg):=by
 refine aZl T sc_count_apart (λF=>F.binds λ_ _ _ _ _ _=>us2 λ_ _=>rfl) ?_ λf cdv A outer s H E Z=>⟨_,(aQ2 (aQ9 (i:=2) sc_count_apart.nd rfl (a9 rfl) (fX4 (prN P w K) (eXn Z) (bQ6 (aQ0 aQb (aQ0 (bQ6 aQ1) aQ1))) aQb))
  (aQ2 (aZw cK rfl (aZb (dv 0)) (aQk (i:=3) sc_count_apart.nd rfl (iz rfl)) (aQ2 (aQ9 (i:=4) sc_count_apart.nd rfl (a9 rfl) (eXk (prN P w K)))
  (aQ2 (aZw cK rfl (bJ4 (prN P w K) (dv 2)) (cQq rfl (aQv (cQq rfl (aQv (aQk (i:=5) sc_count_apart.nd rfl (a9 rfl)) (aQv (aQk (i:=6) sc_count_apart.nd rfl (a9 rfl)) bQ7))) (aQv (aQk (i:=7) sc_count_apart.nd rfl (a9 rfl)) bQ7))) (aQ2 (aQ9 (i:=8) sc_count_apart.nd rfl (a9 rfl) (aZ2 rfl B.tuple (aQ0 (aZa (N':=["name", "one"]) (oc:=none) (b:=false) [0] [] rfl sc_count_apart.nd (λ_ _ _=>aQf ..) (.own (.cap (i:=3) rfl (by decide +kernel) .nil)) (aQh rfl) (aZb (dv 6)) (cg_name (i:=0)) (λ_ _ _ _ _=>aQd (i:=0) (nd_ ["name", "one"]) rfl (a9 rfl) (.inr rfl)) (λ_ _ _ _ _=>aZg (by exact(fX7 Z (bQ6 (aQ0 (dv 0) aQ1)) (e_sl (b:=false) (dv 1) aX1 (aQz aQb))))) aQn (λ_ _ _ _ _ _=>aQl rfl (by exact PD.o (dv 0)))) aQ1)))
  (aQ2 (dQk (prN P w K) Z (dv 4) (bQ6 (aQ0 (dv 5) (aQ0 (dv 8) aQ1))) (aQp (k:=false) (dQj (prN P w K) Z (dv 4) (bQ6 (aQ0 (dv 5) (aQ0 (dv 8) aQ1))) aQb) (dv 7)))
  (aQ3 (aXs (PWD.pt (dJ4 (dZo Z (dv 5) (dv 1)) (cJc (bXp (aXr (aQ4 d_meets Z rfl (aQ0 (dv 3) (aQ0 (dv 8) aQ1)))))))) (aQ2 (aQ9 (i:=9) sc_count_apart.nd rfl (a9 rfl) (bQ6 (aQ0 (aQp (k:=false) (dv 5) aQb) (aQ0 (aZ2 rfl B.tuple (aQ0 (aX7 (b:=false) Z rfl B.sorted (aQ0 (aQp (k:=false) (dv 8) (dv 3)) aQ1)) aQ1)) aQ1))))
  (aQ3 (dQk (prN P w K) Z (dv 4) (dv 9) (aQp (k:=false) (dQj (prN P w K) Z (dv 4) (dv 9) aQb) (dv 7))))) aZ3)))))
  (aQ3 (aQ9 (i:=2) sc_count_apart.nd rfl (a9 rfl) (dv 4))))))
  (aQ3 (aQe (fZf rfl B.sum (aQ0 (aZa (N':=["size", "taken", "number", "many"]) (oc:=none) (b:=false) [0,1,2] [] rfl sc_count_apart.nd (λ_ _ _=>aQf ..) (.own (.own (.own (.cap (i:=1) rfl (by decide +kernel) .nil)))) (aQh rfl) (bJ4 (prN P w K) (dv 2)) (eXp (i:=0) (j:=1) (k:=2)) (λ_ _ _ _ _=>cQ6 rfl (aZr (cQ6 rfl (aZr (aQd (i:=0) (nd_ ["size", "taken", "number", "many"]) rfl (a9 rfl) (.inr rfl)) (aZr (aQd (i:=1) (nd_ ["size", "taken", "number", "many"]) rfl (a9 rfl) (.inr rfl)) bZ5))) (aZr (aQd (i:=2) (nd_ ["size", "taken", "number", "many"]) rfl (a9 rfl) (.inr rfl)) bZ5))) (λ_ _ _ _ _=>aZg (by exact(dZn Z (dv 0) (dv 3)))) aQn (λ_ _ _ _ _ _=>aQl rfl (by exact PD.o (dv 2)))) aQ1)))))),?_⟩
 ·rintro ds S Q ⟨ts,many,rfl,_⟩;rfl
 ·rintro ds S Q ⟨ts,many,rfl,hl,sR,hs,q⟩;intro p0 hp0 o0;refine⟨z9999 (by decide),z9999 (by decide),(0,[]),o0,rfl,aQ6,λo1=>?_⟩
  refine⟨_,rfl,?_⟩;refine aZ8 (λi Γ S'=>∃(p:Addr) (o:Obj) (l:List ((Nat×List Str)×Nat)) (x3 x4 x5 x6 x7 x8 x9:Option D),Γ=[some (.tup (ts.map tupS)),some (.int many),some (.ref p),x3,x4,x5,x6,x7,x8,x9]/\S' p=some (dxO (prN P w K) o (kE l))/\(∀b o,S b=some o->S' b=some o)/\CtK many (ts.take i) l/\l.length<=2^i/\∀e∈l.map (·.1),e.2.Nodup/\e.2.length<=6*i) ?_ ?_ ?_
  ·refine⟨p0,o1,[((0,[]),1)],none,none,none,none,none,none,none,rfl,?_,λb o e=>?_,.start many,Nat.le_refl _,?_⟩
   ·exact aQ6
   ·have hb:b≠p0:=by rintro rfl;rw[e] at hp0;cases hp0
    exact(supd_ne hb).trans ((supd_ne hb).trans e)
   ·intro e he;have he:e=(0,[]):=by simpa using he
    subst he;exact⟨eT,Nat.le_refl _⟩
  ·rintro i x Γ S' N hx ⟨p,o,l,x3,x4,x5,x6,x7,x8,x9,rfl,O,fr,ct,hl2,hk⟩ hN;rw[aL,bR] at hx;obtain⟨t,ht,rfl⟩:=hx;have hi:i<ts.length:=(aB.mp ht).1;obtain⟨tS,t6⟩:=hs t (am ht);refine⟨trivial,?_⟩;intro p' hp' o';have J:p≠p':=by rintro rfl;rw[O] at hp';cases hp'
   have hl3:l.length<=16384:=Nat.le_trans hl2 (Nat.pow_le_pow_right (n:=2) (by decide) (show i<=14 by omega))
   refine⟨p,o,kE l,rfl,(supd_ne J).trans O,?_⟩;refine aZ8 (λj Γ S2=>∃(o2:Obj) (G:List ((Nat×List Str)×Nat)) (y5 y6 y7 y8 y9:Option D),Γ=[some (.tup (ts.map tupS)),some (.int many),some (.ref p),some (tupS t),some (.ref p'),y5,y6,y7,y8,y9]/\S2 p=some (dxO (prN P w K) o (kE l))/\S2 p'=some (dxO (prN P w K) o2 (kE G))/\(∀b o,S b=some o->S2 b=some o)/\TnK many t (l.take j) G/\∀e∈G.map (·.1),e.2.Nodup/\e.2.length<=6*(i+1)) ?_ ?_ ?_
   ·exact⟨o',[],x5,x6,x7,x8,x9,rfl,(supd_ne J).trans O,aQ6,λb o e=>(supd_ne (by rintro rfl;rw[fr _ _ e] at hp';cases hp')).trans (fr b o e),.nil,λe h=>nomatch h⟩
   ·rintro j y Γ S2 N2 hy ⟨o2,G,y5,y6,y7,y8,y9,rfl,L,U,Y,tn,hk2⟩ hN2;rw[aL,bR] at hy;obtain⟨q',hq,rfl⟩:=hy;unfold kE at hq;rw[aL,bR] at hq;obtain⟨⟨⟨size,taken⟩,n⟩,hen,rfl⟩:=hq;have hj:j<l.length:=(aB.mp hen).1;obtain⟨knd,kl⟩:taken.Nodup/\taken.length<=6*i:=hk (size,taken) (aQ.mpr ⟨_,am hen,rfl⟩);refine⟨L,rfl,rfl,rfl,rfl,?_⟩;refine⟨_,rfl,aQr (enc:=D.str) (p:=geq t) (f:=D.str) (λn hn Q' h=>?_) (λn hn _ Q' h=>h) (z9999 ?_) ?_⟩
    ·exact⟨z9999 (by show 1<=9999;decide),1,rfl,[n],t.take 1,rfl,by show D.tup (cutD (t.map D.str) none (some ((1:Nat):Int)))=_;rw[bZw,<- jw];rfl,_,rfl,h⟩
    ·show 0+taken.length<=_;omega
    have sl:(taken.filter (geq t)).length<=6*i:=Nat.le_trans (bf _ _) kl;have snd:(taken.filter (geq t)).Nodup:=knd.filter _;have wl:G.length<=32768:=by
     have:=tn.len
     rw[aM] at this;omega
    have etk:l.take (j+1)=l.take j++[((size,taken),n)]:=by rw[cE,hen];rfl
    refine⟨_,rfl,⟨p',o2,kE G,rfl,U⟩,z9999 (by show 2<=9999;decide),p',o2,kE G,(size,taken.filter (geq t)),rfl,U,rfl,?_⟩
    rw[dJq];refine⟨z9999 (by show 2<=9999;decide),p',o2,kE G,(size,taken.filter (geq t)),rfl,U,rfl,?_,λo3=>?_⟩
    ·show(kE G).length<sizeLine;unfold kE;rw[ah,bK];omega
    rw[show((valK G (size,taken.filter (geq t)):Nat):Int)+(n:Int)=((valK G (size,taken.filter (geq t))+n:Nat):Int) from(cS ..).symm,dJr]
    have frn:∀{o3:DO}{S3:Sto},(∀b o,S b=some o->S3 b=some o)->∀b o,S b=some o->supd S3 p' o3 b=some o:=λh b o e=>(supd_ne (by rintro rfl;rw[fr _ _ e] at hp';cases hp')).trans (h b o e)
    have kw:∀e∈(addK G (size,taken.filter (geq t)) n).map (·.1),e.2.Nodup/\e.2.length<=6*(i+1):=λe he=>by
     rcases cZe he with he|rfl
     ·exact hk2 e he
     ·exact⟨snd,by show(taken.filter (geq t)).length<=_;omega⟩
    refine⟨_,rfl,ite2 (λc0=>?_) λc0=>?_⟩
    ·have c0:size<many:=by have z:((size:Nat):Int)<((many:Nat):Int):=of_decide_eq_true c0;omega
     refine⟨Str,inferInstance,strE,t,taken.filter (geq t),tupS t,tupS (taken.filter (geq t)),rfl,by decide,.inl rfl,.inl rfl,by omega,?_⟩
     refine ite2 (λc1=>?_) λc1=>?_
     ·have c1:mts t (taken.filter (geq t))=false:=by simpa using c1
      have an:(taken.filter (geq t)++t).Nodup:=by
       rw[bV];refine⟨snd,tS.imp λh e=>?_,λa ha b hb e=>?_⟩
       ·subst e;rw[HT.ltS_ir] at h;cases h
       ·subst e
        have:=mts_iff.mpr ⟨a,ha,hb⟩
        rw[c1] at this;cases this
      refine⟨z9999 ?_,.inl ⟨taken.filter (geq t)++t,?_,_,rfl,z9999 (by show 2<=9999;decide),?_⟩⟩
      ·show((taken.filter (geq t)).map D.str).length+(t.map D.str).length<=9999;rw[ah,ah];omega
      ·show(taken.filter (geq t)++t).map D.str=(taken.filter (geq t)).map D.str++t.map D.str;rw[aZ]
      have wl2:(addK G (size,taken.filter (geq t)) n).length<=32769:=Nat.le_trans (aJp _ _ _) (by omega)
      refine⟨⟨p',o3,kE (addK G (size,taken.filter (geq t)) n),rfl,aQ6⟩,p',o3,kE (addK G (size,taken.filter (geq t)) n),(size+1,srS (taken.filter (geq t)++t)),rfl,aQ6,rfl,?_⟩;rw[dJq];refine⟨p',o3,kE (addK G (size,taken.filter (geq t)) n),(size+1,srS (taken.filter (geq t)++t)),rfl,aQ6,rfl,?_,λo4=>?_⟩
      ·show(kE _).length<sizeLine;unfold kE;rw[ah,bK];omega
      rw[show((valK (addK G (size,taken.filter (geq t)) n) (size+1,srS (taken.filter (geq t)++t)):Nat):Int)+(n:Int)=((valK (addK G (size,taken.filter (geq t)) n) (size+1,srS (taken.filter (geq t)++t))+n:Nat):Int) from(cS ..).symm,dJr]
      refine hN2 _ _ ⟨o4,_,_,_,_,_,_,rfl,(supd_ne J).trans ((supd_ne J).trans L),aQ6,frn (frn Y),by rw[etk];exact tn.two (size,taken) n ⟨c0,c1⟩,λe he=>?_⟩
      rcases cZe he with he|rfl
      ·exact kw e he
      ·refine⟨(aZ4 _).nodup_iff.mpr an,?_⟩;show(srS _).length<=_;rw[(aZ4 _).length_eq,ap];omega
     ·have c1:mts t (taken.filter (geq t))=true:=by simpa using c1
      exact hN2 _ _ ⟨o3,_,_,_,_,_,_,rfl,(supd_ne J).trans L,aQ6,frn Y,by rw[etk];exact tn.one (size,taken) n λz=>(by rw[show mts t _=false from z.2] at c1;cases c1),kw⟩
    ·have c0:¬ size<many:=λz=>c0 (decide_eq_true (show((size:Nat):Int)<((many:Nat):Int) by omega))
     refine ite2 (λz=>nomatch (show false=true from z)) λ_=>?_
     exact hN2 _ _ ⟨o3,_,_,_,_,_,_,rfl,(supd_ne J).trans L,aQ6,frn Y,by rw[etk];exact tn.one (size,taken) n λz=>c0 z.1,kw⟩
   ·rintro Γ S2 ⟨o2,G,y5,y6,y7,y8,y9,rfl,L,U,Y,tn,hk2⟩;have el:(l.take ((kE l).map λp=>D.tup [(prN P w K).enc p.1,p.2]).length)=l:=by
     unfold kE;rw[ah,ah,cz]
    rw[el] at tn;refine⟨L,hN _ _ ⟨p',o2,G,some (tupS t),some (.ref p'),y5,y6,y7,y8,y9,rfl,U,Y,?_,?_,hk2⟩⟩
    ·rw[cE,ht];exact ct.turn tn
    ·rw[Nat.pow_succ]
     have:=tn.len
     omega
  ·rintro Γ S' ⟨p,o,l,x3,x4,x5,x6,x7,x8,x9,rfl,O,fr,ct,hl2,hk⟩;rw[ah,cz] at ct;have hl3:l.length<=16384:=Nat.le_trans hl2 (Nat.pow_le_pow_right (n:=2) (by decide) (show(ts.map tupS).length<=14 by rw[ah];exact hl))
   refine⟨trivial,p,o,kE l,rfl,O,cQ4 O l [] (by show 0+_<=_;omega) ?_⟩
   refine⟨(l.filter λq=>decide (q.1.1=many)).map λq=>(q.2:Int),?_,cJr fr ?_⟩
   ·show []++_=_;rw[bP,bI];rfl
   rw[dXj,ct.told sR λo ho=>(hs o ho).1];exact q
end
abbrev s_count_with_core:Stmt:=top 11
theorem aXu:FnScope ["sets", "many", "core"] ["sets", "many", "core"] (aQ5 s_count_with_core):=fsc
def aZi:SpD:=λds S Q=>∃(ts:List (List Str)) (m:Nat) (c:List Str),ds=[.tup (ts.map tupS),.int m,tupS c]/\ts.length<=14/\SrtT ts/\(∀t∈ts,Srt t/\t.length<=6)/\Srt c/\c.length<=9999/\2<=m/\Q (.int (cwc ts m c:Nat)) S
section
variable{P:au}{w:aN}{K:ay}{mg:Str->Option ae}{base:bu}{pt cc:Addr}
theorem aXv(T:Tx K mg "count_with_core" s_count_with_core)(B:Bs mg)(d_link_of:Df P w K mg base 2 "link_of" ["sets", "row"] (spU K aXd))(d_count_apart:Df P w K mg base 2 "count_apart" ["sets", "many"] (spU K aXg)):Df P w K mg base 3 "count_with_core" ["sets", "many", "core"] (spU K aZi):=by
 refine aZl T aXu (λF=>F.binds λ_ _ _ _ _ _=>us3 λ_ _ _=>rfl) ?_ λf U A outer s H E J=>⟨_,(aQ3 (aQe (eZ8 (fQt J (dv 1) aQb) (aQ4 d_count_apart J rfl (aQ0 (aQ4 d_link_of J rfl (aQ0 (dv 0) (aQ0 (dv 2) aQ1))) (aQ0 (dv 1) aQ1))) aQb))),?_⟩
 ·rintro ds S Q ⟨G,m,c,rfl,_⟩;rfl
 ·rintro ds S Q ⟨G,m,c,rfl,hl,O,z,sc,Y,m2,q⟩;have nd:=O.nodup;have es:=λt j=>(z t j).1;refine⟨_,rfl,ite2 (λL=>?_) λL=>absurd (decide_eq_true (show((2:Nat):Int)<=((m:Nat):Int) by omega)) L⟩
  refine⟨G,c,rfl,by omega,Y,λt j=>by have:=(z t j).2;omega,lnk G c,m,rfl,?_,bJw (fX0 nd es),λt j=>?_,?_⟩
  ·unfold lnk;rw[(aZ5 _).length_eq,ah];exact Nat.le_trans (bf _ _) hl
  ·unfold lnk at j;rw[mem_srT,aQ] at j;obtain⟨o,D,rfl⟩:=j;have D:=(av.mp D).1;exact⟨(z o D).1.filter _,Nat.le_trans (bf _ _) (z o D).2⟩
  ·rw[cZc nd es m2 sc] at q;exact aQg q
end
abbrev s_core_count:Stmt:=top 19
theorem bX4:FnScope ["sets", "many", "core"] ["sets", "many", "core"] (aQ5 s_core_count):=fsc
def aXw:SpD:=λds S Q=>∃(ts:List (List Str)) (m:Nat) (c:List Str),ds=[.tup (ts.map tupS),.int m,tupS c]/\ts.length<=14/\SrtT ts/\(∀t∈ts,Srt t/\t.length<=6)/\Srt c/\c.length<=9999/\2<=m/\Q (.int (cwc ts m c:Nat)) S
section
variable{P:au}{w:aN}{K:ay}{mg:Str->Option ae}{base:bu}{pt cc:Addr}
theorem bX5(T:Tx K mg "core_count" s_core_count)(B:Bs mg)(d_count_with_core:Df P w K mg base 3 "count_with_core" ["sets", "many", "core"] (spU K aZi)):Df P w K mg base 4 "core_count" ["sets", "many", "core"] (spU K aXw):=by
 refine aZl T bX4 (λF=>F.binds λ_ _ _ _ _ _=>us3 λ_ _ _=>rfl) ?_ λf J A outer s H E G=>⟨_,(aQ3 (aQe (aQ4 d_count_with_core G rfl (aQ0 (dv 0) (aQ0 (dv 1) (aQ0 (dv 2) aQ1)))))),?_⟩
 ·rintro ds S Q ⟨j,m,c,rfl,_⟩;rfl
 ·rintro ds S Q ⟨j,m,c,rfl,hl,z,D,sc,L,m2,q⟩;exact⟨j,m,c,rfl,hl,z,D,sc,L,m2,aQg q⟩
end
end Toy
namespace L2
open PySem PySem.Spec PyProof.Rows
section
variable{X:Cx}{K:Fg}{pos:Pos}
theorem dXk{F:Am}{S:Sto}{H:Hp}{p q:Addr}{xs ys:List D}{us:List V}(t:LstAt K (mt S F) H p us)(l:RepL K (mt S F) H xs us):ItOk K F S H (Itz K p q) (zipD xs ys) (λS'=>S' q=some (.lst ys)) where
 go:=λF2 f S2 H2 x j g i d hd=>by
  obtain⟨e1,e2,h1,h2,rfl⟩:=bZo xs ys i d hd;obtain⟨vs,L,J⟩:=j.obj q _ g;obtain⟨v1,g1,G⟩:=l.get h1;obtain⟨v2,g2,B⟩:=J.get h2;have s1:SqL K H2 p us:=(t.keep (x.kpF f)).sq;have s2:SqL K H2 q vs:=SqL.of L;refine⟨⟨us,vs,v1,v2,s1,s2,g1,g2⟩,λz H3 ⟨b,y,y',Y,Z,eH,U,O⟩=>?_⟩;subst Z;subst eH
  have:=U us s1
  rw[g1] at this;cases this
  have:=O vs s2
  rw[g2] at this;cases this;exact cQu j Y (G.keep (x.kpF f)) B
 stop:=λF2 f S2 H2 x j g=>by
  obtain⟨vs,L,J⟩:=j.obj q _ g;exact⟨us,vs,(t.keep (x.kpF f)).sq,SqL.of L,by rw[bZp,l.length,J.length];lia⟩
def fJn(ta:AD):ID:=fun Γ S Q=>ta Γ S λds S1=>∃xs p ys,ds=[.lst xs,.ref p]/\S1 p=some (.lst ys)/\Q (zipD xs ys) (λS'=>S' p=some (.lst ys)) S1
theorem eXr{e f:Expr}{ta:AD}{p:Pos}{elts:List Expr}{x1:Nat}{tpos:Pos}(hg:Gl X "zip")(hm:X.mg "zip"=none)(ha:PAD K X [e,f] ta)(hs:aC [e,f] X.env=[(false,eval e X.env),(false,eval f X.env)]:=by rfl)(hs2:aC [f] X.env=[(false,eval f X.env)]:=by rfl)(hK:X.K=K:=by rfl) :
  PID K X (.Tuple elts x1 tpos) (.Call (.Name "zip" p) [e,f] [] pos) (fJn ta):=.of (fZi hg hm ha.o hs hs2 hK) fun σ H Q G=>G.el λF S Γ QD r g q c =>
 ⟨F,S,Γ,_,r,g,q,λvs ds H1 Z x1 D v1 ⟨xs,a,ys,U,O,J⟩=>by
  subst U;obtain⟨v,w,rfl,B,z⟩:=v1.two;rw[rref z];unfold RepV at B;obtain⟨p,us,rfl,t,l⟩:=B;obtain⟨j,L,Y⟩:=D.obj a _ O;exact⟨p,a,rfl,⟨us,t.sq⟩,⟨j,SqL.of L⟩,c _ _ _ _ _ x1 D (dXk t l) J⟩⟩
end
end L2
namespace Toy
open PySem L2
abbrev bX6:Stmt:=top 26
theorem sc_law:FnScope ["script", "deck", "turn", "many", "core", "branches", "leaves", "rows", "branch", "row", "sets", "second", "due", "most", "ways", "k", "at", "left", "lone", "fewer"] ["script"] (aQ5 bX6):=fsc
section
variable{P:au}{w:aN}{K:ay}{mg:Str->Option ae}{base:bu}{pt cc:Addr}
theorem fX8{f:Addr}{fd:d8}(Fn:Fun K "law" "law" bX6 f fd)(B:Bs mg)(d_law_deck:Df P w K mg base 49 "_law_deck" ["script"] (spU K cZ7))(d_law_tree:Df P w K mg base 49 "_law_tree" ["deck"] (spU K bQj))(d_law_set:Df P w K mg base 49 "_law_set" ["names"] (spU K aJf))(d_levels_of:Df P w K mg base 49 "levels_of" ["sets", "many", "most"] (spU K aJh))(d_core_count:Df P w K mg base 49 "core_count" ["sets", "many", "core"] (spU K aXw))(d_next_level:Df P w K mg base 49 "next_level" ["sets", "many"] (spU K aZv))(d_law_draw:Df P w K mg base 49 "_law_draw" ["deck", "most"] (spU K aXb)):FnOk P w K mg base CX0 50 f fd ["script"] (spU K (cZ4 63)):=by
 refine e_fn Fn sc_law ?_ λcdv A outer s H E hr=>⟨_,(aQ2 (aQ9 (i:=1) sc_law.nd rfl (a9 rfl) (aQ4 d_law_deck hr rfl (aQ0 (dv 0) aQ1)))
  (aQ2 (aZw cK rfl (aZo rfl B.range (aQ0 aQb aQ1)) (aQk (i:=2) sc_law.nd rfl (a9 rfl)) (aQ2 (cJf (aQ4 d_law_tree hr rfl (aQ0 (dv 1) aQ1)) (fZm rfl (aQv (aQk (i:=3) sc_law.nd rfl (a9 rfl)) (aQv (aQk (i:=4) sc_law.nd rfl (iz rfl)) (aQv (aQk (i:=5) sc_law.nd rfl (a9 rfl)) (aQv (aQk (i:=6) sc_law.nd rfl (a9 rfl)) bQ7))))))
  (aQ2 (aQ9 (i:=7) sc_law.nd rfl (a9 rfl) (aX0 (b:=true) aQ1))
  (aQ2 (aZw cK rfl (eXr rfl B.zip (aQ0 (dv 5) (aQ0 (dv 6) aQ1))) (cQq rfl (aQv (aQk (i:=8) sc_law.nd rfl (iz rfl)) (aQv (aQk (i:=9) sc_law.nd rfl (a9 rfl)) bQ7))) (aQ3 (bQ8 (cQx (dv 7) (aQ0 (aZa (N':=["leaf", "core", "branch"]) (oc:=none) (b:=true) [0] [] rfl sc_law.nd (λ_ _ _=>aQf ..) (.own (.cap (i:=4) rfl (by decide +kernel) (.cap (i:=8) rfl (by decide +kernel) .nil))) (aQh rfl) (aZb (dv 9)) (cg_name (i:=0)) (λ_ _ _ _ _=>aQd (i:=0) (nd_ ["leaf", "core", "branch"]) rfl (a9 rfl) (.inr rfl)) (λ_ _ _ _ _=>aZ7) aQn (λ_ _ _ _ _ _=>aQl rfl (by exact PD.o (aQ4 d_law_set hr rfl (aQ0 (aQp (k:=false) (dv 1) (aX0 (b:=false) (aQ0 (dv 2) (aQ0 (dv 0) aQ1)))) aQ1))))) aQ1)))))
  (aQ2 (aQ9 (i:=10) sc_law.nd rfl (a9 rfl) (aZ2 rfl B.tuple (aQ0 (aX7 (b:=false) hr rfl B.sorted (aQ0 (dv 7) aQ1)) aQ1)))
  (aQ2 (aQ9 (i:=11) sc_law.nd rfl (a9 rfl) (aZ2 rfl B.tuple (aQ0 (aX7 (b:=false) hr rfl B.sorted (aQ0 (aQp (k:=false) (aZa (N':=["branch", "core"]) (oc:=none) (b:=false) [0] [] rfl sc_law.nd (λ_ _ _=>aQf ..) (.own (.cap (i:=4) rfl (by decide +kernel) .nil)) (aQh rfl) (aZb (dv 5)) (cg_name (i:=0)) (λ_ _ _ _ _=>aQd (i:=0) (nd_ ["branch", "core"]) rfl (a9 rfl) (.inr rfl)) (λ_ _ _ _ _=>aZ7) aQn (λ_ _ _ _ _ _=>aQl rfl (by exact PD.o (aQ4 d_law_set hr rfl (aQ0 (aQp (k:=false) (dv 1) (aX0 (b:=false) (aQ0 (dv 0) aQ1))) aQ1))))) (aX0 (b:=false) (aQ0 (aQ4 d_law_set hr rfl (aQ0 (dv 4) aQ1)) aQ1))) aQ1)) aQ1)))
  (aQ2 (aQ9 (i:=12) sc_law.nd rfl (a9 rfl) (aX0 (b:=false) (aQ0 (dv 10) (aQ0 (dv 11) (aQ0 (bQ6 (aQ0 (aQ4 d_law_set hr rfl (aQ0 (dv 4) aQ1)) aQ1)) aQ1)))))
  (aQ2 (aZw cK rfl (cJh rfl B.range (aQ0 aQb (aQ0 aQb aQ1))) (aQk (i:=13) sc_law.nd rfl (a9 rfl)) (aQ3 (aXs (cZt hr (aQ4 d_levels_of hr rfl (aQ0 (dv 10) (aQ0 (dv 3) (aQ0 (dv 13) aQ1)))) (e_sl (b:=false) (dv 12) aX1 (aQz (dv 13)))) (aQ3 (aQe e_bl)) aZ3)))
  (aQ2 (aQ9 (i:=14) sc_law.nd rfl (a9 rfl) aQb)
  (aQ2 (aZw cK rfl (aZo rfl B.range (aQ0 (dv 3) aQ1)) (aQk (i:=15) sc_law.nd rfl (a9 rfl)) (aQ3 (aQ9 (i:=14) sc_law.nd rfl (a9 rfl) (aJ2 (dv 14) (dv 3)))))
  (aQ2 (aQ9 (i:=16) sc_law.nd rfl (a9 rfl) (aQ4 d_law_draw hr rfl (aQ0 (dv 1) (aQ0 (dv 3) aQ1))))
  (aQ2 (aQ9 (i:=17) sc_law.nd rfl (iz rfl) (aQ4 d_law_set hr rfl (aQ0 (aQp (k:=false) (dv 4) (aX0 (b:=false) (aQ0 (e_ix (dv 5) (dv 16)) aQ1))) aQ1)))
  (aQ2 (aXs (PWD.pt (fQu (cZt hr (aQ4 d_core_count hr rfl (aQ0 (dv 10) (aQ0 (dv 3) (aQ0 (dv 17) aQ1)))) aQb) (dJ3 (cZt hr (aQ4 d_core_count hr rfl (aQ0 (dv 10) (aQ0 (dv 3) (aQ0 (aQ4 d_law_set hr rfl (aQ0 (dv 4) aQ1)) aQ1)))) (dv 14))))) (aQ3 (aQe e_bl)) aZ3)
  (aQ2 (aQ9 (i:=18) sc_law.nd rfl (iz rfl) (e_ix (dv 7) (aQp (k:=false) (aJ2 (dv 3) (dv 16)) (aQ4 d_law_draw hr rfl (aQ0 (dv 1) (aQ0 (dv 3) aQ1))))))
  (aQ2 (aQ9 (i:=19) sc_law.nd rfl (a9 rfl) (aZ2 rfl B.tuple (aQ0 (aZa (N':=["row", "lone"]) (oc:=none) (b:=false) [0] [] rfl sc_law.nd (λ_ _ _=>aQf ..) (.own (.cap (i:=18) rfl (by decide +kernel) .nil)) (aQh rfl) (aZb (dv 10)) (cg_name (i:=0)) (λ_ _ _ _ _=>aQd (i:=0) (nd_ ["row", "lone"]) rfl (a9 rfl) (.inr rfl)) (λ_ _ _ _ _=>aZg (by exact(cZt hr (dv 0) (dv 1)))) aQn (λ_ _ _ _ _ _=>aQl rfl (by exact PD.o (dv 0)))) aQ1)))
  (aQ3 (aXs (cZt hr (aQ4 d_next_level hr rfl (aQ0 (dv 19) (aQ0 (dv 3) aQ1))) (aZ2 rfl B.tuple (aQ0 (aZa (N':=["row", "left"]) (oc:=none) (b:=false) [0] [] rfl sc_law.nd (λ_ _ _=>aQf ..) (.own (.cap (i:=17) rfl (by decide +kernel) .nil)) (aQh rfl) (aZb (dv 11)) (cg_name (i:=0)) (λ_ _ _ _ _=>aQd (i:=0) (nd_ ["row", "left"]) rfl (a9 rfl) (.inr rfl)) (λ_ _ _ _ _=>aZg (by exact(cZt hr (dv 0) (dv 1)))) aQn (λ_ _ _ _ _ _=>aQl rfl (by exact PD.o (dv 0)))) aQ1))) (aQ3 (aQe e_bl)) aZ3)))))))))))))))))
  (aQ3 (aQe e_bl)))),?_⟩
 ·rintro ds S Q ⟨ns,rfl,_⟩;rfl
 ·rintro ds S Q ⟨ns,rfl,h63,hw,hS,q⟩;refine⟨ns,rfl,h63,hw,λa S1 ha _ dk1=>⟨⟨by decide,by decide⟩,?_⟩⟩
  refine aZ8 (λi Γ S'=>∃x2 x3 x4 x5 x6 x7 x8 x9 x10 x11 x12 O x14 J x16 x17 Z Y:Option D,Γ=[some (.lst (ns.map D.int)),some (.ref a),x2,x3,x4,x5,x6,x7,x8,x9,x10,x11,x12,O,x14,J,x16,x17,Z,Y]/\DkD S' a (1000*i)) ⟨none,none,none,none,none,none,none,none,none,none,none,none,none,none,none,none,none,none,rfl,dk1⟩ ?_ ?_
  ·rintro i x Γ S2 N U ⟨x2,x3,x4,x5,x6,x7,x8,x9,x10,x11,x12,O,x14,J,x16,x17,Z,Y,rfl,dk2⟩ hN;obtain⟨hi,rfl⟩:=bXs U;have hi4:i<4:=hi;refine⟨trivial,a,1000*i,rfl,dk2,by omega,λm C B L p S3 m2 m3 nd c4 c12 bl ll le hp hf dk3 off3=>⟨rfl,rfl,z9999 (by decide),λp2 hp2=>?_⟩⟩
   have T:=eXd nd bl ll le;have hpa:p≠a:=dk2.ne hp;have h2a:p2≠a:=dk3.ne hp2;have h2p:p2≠p:=by rintro rfl;rw[hf] at hp2;cases hp2
   have hf2:supd S3 p2 (.lst []) p=some (.lst (L.map λx=>D.lst (x.map D.str))):=(supd_ne (cA h2p)).trans hf;have mm:m*m<=9:=Nat.mul_le_mul m3 m3;refine⟨_,p,_,rfl,hf2,?_⟩;refine aZ8 (λk Γ S'=>∃x8 x9:Option D,Γ=[some (.lst (ns.map D.int)),some (.ref a),some (.int (i:Nat)),some (.int (m:Nat)),some (.lst (C.map D.str)),some (.lst (B.map D.str)),some (.ref p),some (.ref p2),x8,x9,x10,x11,x12,O,x14,J,x16,x17,Z,Y]/\S' p2=some (.lst ((rws C B L k).map tupS))/\∀b,b≠p2->S3 b≠none->S' b=S3 b) ⟨_,_,rfl,aQ6,λb hb _=>supd_ne hb⟩ ?_ ?_
   ·rintro k x Γ S' N2 hx2 ⟨x8,x9,rfl,hr,off⟩ hN2;obtain⟨d,e,hd,he,rfl⟩:=bZo _ _ _ _ hx2;rw[aL,bR] at hd he;obtain⟨br,hbr,rfl⟩:=hd;obtain⟨row,hrow,rfl⟩:=he;have G:k<m:=by rw[<- bl];exact(aB.mp hbr).1
    have eb:bT B k=br:=by show B.getD k ⟨#[]⟩=br;rw[ai,hbr];rfl
    have er:L.getD k []=row:=by rw[ai,hrow];rfl
    have rl:=le row (am hrow);refine⟨(off p (cA h2p) (by rw[hf];exact λz=>by cases z)).trans hf,rfl,rfl,⟨_,hr⟩,_,rfl,aX9 (enc:=D.str) (f:=λx=>tupS (srS (C++[br,x]))) (λx U Q q=>⟨z9999 (by show 2<=9999;decide),_,_,rfl,rfl,z9999 (by rw[ah];show C.length+2<=9999;omega),C++[br,x],by rw[aZ];rfl,q⟩) (z9999 (by show 0+row.length<=9999;omega)) ?_⟩
    intro p3 hp3;have hne:p3≠p2:=by rintro rfl;rw[hp3] at hr;cases hr
    have rlen:=bX0 (C:=C) (B:=B) ll le k (by omega)
    have:m*k+m<=m*m:=by rw[<- Nat.mul_succ];exact Nat.mul_le_mul_left m G
    refine⟨_,_,(supd_ne (cA hne)).trans hr,aQ6,?_,hN2 _ _ ⟨_,_,rfl,?_,λb hb hs=>?_⟩⟩
    ·rw[bP,ah,ah,rlen];exact z9999 (by omega)
    ·rw[aQ6,bP,bZz,eb,er];show _=some (DO.lst ((rws C B L k++row.map λx=>srS (C++[br,x])).map tupS));rw[aZ,bI];rfl
    ·rw[supd_ne hb,supd_ne (by rintro rfl;rw[off _ hb hs] at hp3;exact hs hp3)]
     exact off b hb hs
   rintro Γ S4 ⟨x8,x9,rfl,hr,off⟩;rw[bZp,ah,ah,bl,ll,Nat.min_self] at hr;have dk4:DkD S4 a (1000*i+500):=dk3.eq (off a (cA h2a) (by obtain⟨_,_,_,e,_⟩:=dk3;rw[e];exact λz=>by cases z))
   have hf4:S4 p=some (.lst (L.map λx=>D.lst (x.map D.str))):=(off p (cA h2p) (by rw[hf];exact λz=>by cases z)).trans hf
   have rn:=fZz T ll le;have rl:=bX0 (C:=C) (B:=B) ll le m (Nat.le_refl _);have rm:∀t,t∈rws C B L m↔_:=λt=>eXe ll le;have rat:=λk j G hj=>dQi (C:=C) (B:=B) ll le (k:=k) (j:=j) hj m (Nat.le_refl _) G;generalize rws C B L m=R at hr rn rl rm rat
   refine⟨hf4,.inr (.inr ⟨R,.inl hr,_,rfl,?_⟩)⟩;have sT:SrtT (srT R):=bJw rn;have tm:∀t,t∈srT R↔_:=λt=>mem_srT.trans (rm t);have tl:(srT R).length=m*m:=by rw[(aZ5 _).length_eq,rl]
   show dSeq _ _ _ [some (.lst (ns.map D.int)),some (.ref a),some (.int (i:Nat)),some (.int (m:Nat)),some (.lst (C.map D.str)),some (.lst (B.map D.str)),some (.ref p),some (.ref p2),x8,x9,some (.tup ((srT R).map tupS)),x11,x12,O,x14,J,x16,x17,Z,Y] S4;generalize srT R=ts at sT tm tl;refine⟨_,rfl,aX9 (enc:=D.str) (f:=λx=>tupS (srS (C++[x]))) (λx U Q q=>⟨z9999 (by show 1<=9999;decide),_,_,rfl,rfl,z9999 (by rw[ah];show C.length+1<=9999;omega),C++[x],by rw[aZ];rfl,q⟩) (z9999 (by show 0+B.length<=9999;omega)) ?_⟩
   have bnd:B.Nodup:=(bV.mp (bV.mp nd).1).2.1;have bin:∀k,k<m->bT B k∈B:=λk G=>(aZ1 (by omega)).1
   have bat:∀x∈B,∃k,k<m/\srS (C++[x])=br7 C (bT B) k:=λx U=>by
    obtain⟨k,G,e⟩:=bh U;refine⟨k,by omega,?_⟩
    unfold br7;rw[show bT B k=x by show B.getD k ⟨#[]⟩=x;rw[ai,af G];exact e]
   have um:∀t,t∈(B.map λx=>srS (C++[x]))++[srS C]↔t=co7 C\/∃k,k<m/\t=br7 C (bT B) k:=λt=>by
    rw[aS,aH,aQ];constructor
    ·rintro(⟨x,U,rfl⟩|rfl)
     ·obtain⟨k,G,e⟩:=bat x U;exact .inr ⟨k,G,e⟩
     ·exact .inl rfl
    ·rintro(rfl|⟨k,G,rfl⟩)
     ·exact .inr rfl
     ·exact .inl ⟨_,bin k G,rfl⟩
   have un:((B.map λx=>srS (C++[x]))++[srS C]).Nodup:=bV.mpr ⟨bH.mpr (aJ (λ{x y} U hy n e=>n (by
    have h1:x∈srS (C++[y]):=by rw[<- e,mem_srS];simp
    rw[mem_srS,aS,aH] at h1;exact h1.resolve_left λz=>(bV.mp (bV.mp nd).1).2.2 x z x U rfl)) bnd),by simp,λx U y hy e=>by
    obtain⟨z,hz,rfl⟩:=aQ.mp U;obtain⟨k,G,e2⟩:=bat z hz;rw[aH.mp hy,e2] at e;exact T.bco G e⟩
   rw[bP];refine⟨C,rfl,z9999 (by show 1<=9999;decide),_,_,rfl,rfl,z9999 (by rw[ah];show B.length+1<=9999;omega),.inr (.inr ⟨(B.map λx=>srS (C++[x]))++[srS C],by show _=_;rw[aZ,bI];rfl,_,rfl,?_⟩)⟩
   have ul:((B.map λx=>srS (C++[x]))++[srS C]).length=m+1:=by rw[ap,ah,bl];rfl
   have uS:SrtT (srT ((B.map λx=>srS (C++[x]))++[srS C])):=bJw un;have um:∀t,t∈srT ((B.map λx=>srS (C++[x]))++[srS C])↔t=co7 C\/∃k,k<m/\t=br7 C (bT B) k:=λt=>mem_srT.trans (um t);have ul:(srT ((B.map λx=>srS (C++[x]))++[srS C])).length=m+1:=by rw[(aZ5 _).length_eq,ul]
   show dSeq _ _ _ [some (.lst (ns.map D.int)),some (.ref a),some (.int (i:Nat)),some (.int (m:Nat)),some (.lst (C.map D.str)),some (.lst (B.map D.str)),some (.ref p),some (.ref p2),x8,x9,some (.tup (ts.map tupS)),some (.tup ((srT ((B.map λx=>srS (C++[x]))++[srS C])).map tupS)),x12,O,x14,J,x16,x17,Z,Y] S4;generalize srT ((B.map λx=>srS (C++[x]))++[srS C])=us at uS um ul;refine⟨C,rfl,z9999 (by show 1<=9999;decide),z9999 (by show 3<=9999;decide),⟨by decide,by decide⟩,?_⟩
   have t6:∀t∈ts,Srt t/\t.length<=6:=λt h=>by
    obtain⟨k,j,G,hj,rfl⟩:=(tm t).mp h;refine⟨T.rw G hj,?_⟩;unfold rw7;rw[(aZ4 _).length_eq,ap];show C.length+2<=6;omega
   have u6:∀t∈us,Srt t/\t.length<=6:=λt h=>by
    rcases(um t).mp h with rfl|⟨k,G,rfl⟩
    ·exact⟨T.co,by unfold co7;rw[(aZ4 _).length_eq];omega⟩
    ·refine⟨T.br G,?_⟩;unfold br7;rw[(aZ4 _).length_eq,ap];show C.length+1<=6;omega
   have w6:Srt (co7 C)/\(co7 C).length<=6:=⟨T.co,by unfold co7;rw[(aZ4 _).length_eq];omega⟩
   have fl:L.flatten.length=m*m:=by
    have:∀l:List (List Str),(∀x∈l,x.length=m)->l.flatten.length=m*l.length:=λl=>by
     induction l with
     |nil=>intro _;rfl
     |cons x l ih=>intro h;rw[gU,ap,ih λy hy=>h y (ao _ hy),h x ak,aK,Nat.mul_succ];omega
    rw[this L le,ll]
   have al:(C++B++L.flatten).length<=12:=by rw[ap,ap,bl,fl];exact c12
   have lin:∀k j,k<m->j<m->lT L k j∈L.flatten:=λk j G hj=>f9.mpr ⟨_,(aZ1 (l:=L) (k:=k) (z:=[]) (by omega)).1,(aZ1 (by rw[le _ (aZ1 (by omega)).1];exact hj)).1⟩
   have rin:∀k j,k<m->j<m->∀x∈rw7 C (bT B) (lT L) k j,x∈C++B++L.flatten:=λk j G hj x U=>by
    rcases mem_rw7.mp U with h|rfl|rfl
    ·exact be _ (be _ h)
    ·exact be _ (a7 _ (bin k G))
    ·exact a7 _ (lin k j G hj)
   have tn:∀ {v:List (List Str)},(∀ t∈v,t∈ts)->(nms v).length<=12:=λ{v} hv=>Nat.le_trans (aXl λt ht x U=>by
    obtain⟨k,j,G,hj,rfl⟩:=(tm t).mp (hv t ht);exact rin k j G hj x U) al
   have un:(nms us).length<=12:=Nat.le_trans (aXl (N:=C++B++L.flatten) λt ht x U=>by
    rcases(um t).mp ht with rfl|⟨k,G,rfl⟩
    ·exact be _ (be _ (mem_co7.mp U))
    ·rcases mem_br7.mp U with h|rfl
     ·exact be _ (be _ h)
     ·exact be _ (a7 _ (bin k G))) al
   have wn:(nms [co7 C]).length<=12:=Nat.le_trans (aXl (N:=C++B++L.flatten) λt ht x U=>by
    rw[aH.mp ht] at U;exact be _ (be _ (mem_co7.mp U))) al
   have n1:NX m ts us:=⟨uS,λr=>(um r).trans (by
    rw[T.lv1 m2 (P:=λ_ _=>True) sT.nodup (λt=>(tm t).trans ⟨λ⟨k,j,a,b,c⟩=>⟨k,j,a,b,trivial,c⟩,λ⟨k,j,a,b,_,c⟩=>⟨k,j,a,b,c⟩⟩) (λk _=>⟨0,by omega,trivial⟩) r]
    exact or_congr Iff.rfl ⟨λ⟨k,a,b⟩=>⟨k,a,λ_ _=>trivial,b⟩,λ⟨k,a,_,b⟩=>⟨k,a,b⟩⟩)⟩
   have n2:NX m us [co7 C]:=⟨bB ..,λr=>by rw[T.lv2 m2 uS.nodup um r,aH]⟩
   have c1:∀r,(∃s∈ch [co7 C] m,coG s=some r)->False:=λr ⟨s,h,_⟩=>by
    obtain⟨h1,h2⟩:=ch_mem h
    have:=h2.length_le
    have:([co7 C]:List (List Str)).length=1:=rfl
    omega
   have n3:NX m [co7 C] [co7 C]:=⟨bB ..,λr=>⟨λh=>.inr ⟨h,λ⟨s,h1,_,h3⟩=>by
    obtain⟨c,hc⟩:=cj.mp h3;exact c1 c ⟨s,h1,hc⟩⟩,λh=>h.elim (λz=>(c1 r z).elim) (·.1)⟩⟩
   have k1:us≠ts:=λe=>by
    have h:co7 C∈ts:=by rw[<- e];exact(um _).mpr (.inl rfl)
    obtain⟨k,j,G,hj,e2⟩:=(tm _).mp h
    have:bT B k∈co7 C:=by rw[e2,mem_rw7];exact .inr (.inl rfl)
    exact T.bc k G (mem_co7.mp this)
   have k2:[co7 C]≠us:=λe=>by
    have h:br7 C (bT B) 0∈[co7 C]:=by rw[e];exact(um _).mpr (.inr ⟨0,by omega,rfl⟩)
    exact T.bco (by omega) (aH.mp h)
   refine aZ8 (λk Γ S'=>∃O:Option D,Γ=[some (.lst (ns.map D.int)),some (.ref a),some (.int (i:Nat)),some (.int (m:Nat)),some (.lst (C.map D.str)),some (.lst (B.map D.str)),some (.ref p),some (.ref p2),x8,x9,some (.tup (ts.map tupS)),some (.tup (us.map tupS)),some (.lst [flT ts,flT us,flT [co7 C]]),O,x14,J,x16,x17,Z,Y]/\S'=S4) ⟨_,rfl,rfl⟩ ?_ ?_
   ·rintro k x Γ S' N2 hx2 ⟨O,rfl,rfl⟩ hN2;obtain⟨mo,rfl,mo1,mo5⟩:∃mo:Nat,x=.int (mo:Nat)/\1<=mo/\mo<=5:=by
     match k,hx2 with
     |0,h=>exact⟨1,(aO h).symm,by omega,by omega⟩
     |1,h=>exact⟨2,(aO h).symm,by omega,by omega⟩
     |2,h=>exact⟨3,(aO h).symm,by omega,by omega⟩
     |3,h=>exact⟨4,(aO h).symm,by omega,by omega⟩
     |4,h=>exact⟨5,(aO h).symm,by omega,by omega⟩
     |k+5,h=>cases h
    let lv:Nat->List (List Str):=λq=>if q=0 then ts else if q=1 then us else [co7 C]
    refine⟨trivial,lv,2,m,mo,rfl,m2,by omega,by decide,mo1,by omega,λq hq=>?_,λq hq=>?_,n3,?_⟩
    ·have:q=0\/q=1\/q=2:=by omega
     rcases this with rfl|rfl|rfl
     ·exact⟨by show ts.length<=14;omega,sT,t6,tn λt h=>h⟩
     ·exact⟨by show us.length<=14;omega,uS,u6,un⟩
     ·exact⟨by show 1<=14;decide,bB ..,λt h=>by rw[aH.mp h];exact w6,wn⟩
    ·have:q=0\/q=1:=by omega
     rcases this with rfl|rfl
     ·exact⟨n1,k1⟩
     ·exact⟨n2,k2⟩
    have el:(aI (min mo (2+1))).map (λq=>flT (lv q))=((aI (min mo 3)).map lv).map flE.e:=by rw[bI];rfl
    have ee:cutD [flT ts,flT us,flT [co7 C]] none (some ((mo:Nat):Int))=((aI (min mo 3)).map lv).map flE.e:=by
     have:mo=1\/mo=2\/mo=3\/mo=4\/mo=5:=by omega
     rw[bZw];rcases this with rfl|rfl|rfl|rfl|rfl <;> rfl
    rw[el];generalize (aI (min mo 3)).map lv=X at ee;refine⟨((mo:Nat):Int),rfl,_,rfl,?_⟩;rw[ee];have ok:okE 9 (.lst (X.map flE.e)) (.lst (X.map flE.e))=true:=by
     have:=(tupE flE).ok 9 X X (by decide)
     unfold okE at this ⊢;exact this
    exact⟨ok,false,dX9 rfl,hN2 _ _ ⟨_,rfl,rfl⟩⟩
   rintro Γ S' ⟨O,rfl,rfl⟩;refine⟨trivial,⟨by omega,by omega⟩,?_⟩
   rw[b5];have pw:∀k,k<=m->m^k<=27:=λk G=>Nat.le_trans (Nat.pow_le_pow_left m3 k) (Nat.le_trans (Nat.pow_le_pow_right (by decide) (show k<=3 by omega)) (by decide))
   refine aZ8 (λk Γ S2=>∃J:Option D,Γ=[some (.lst (ns.map D.int)),some (.ref a),some (.int (i:Nat)),some (.int (m:Nat)),some (.lst (C.map D.str)),some (.lst (B.map D.str)),some (.ref p),some (.ref p2),x8,x9,some (.tup (ts.map tupS)),some (.tup (us.map tupS)),some (.lst [flT ts,flT us,flT [co7 C]]),O,some (.int ((m^k:Nat):Int)),J,x16,x17,Z,Y]/\S2=S') ⟨_,rfl,rfl⟩ ?_ ?_
   ·rintro k x Γ S2 N2 hx2 ⟨J,rfl,rfl⟩ hN2;obtain⟨G,rfl⟩:=bXs hx2
    have:=pw k (by omega)
    refine⟨trivial,.inl ⟨by omega,by omega⟩,hN2 _ _ ?_⟩
    rw[Nat.pow_succ,fF];exact⟨_,rfl,rfl⟩
   rintro Γ S2 ⟨J,rfl,rfl⟩;rw[aZc];refine⟨trivial,a,m,1000*i+500,rfl,dk4,by omega,by omega,by omega,λat' S5 at0 at1 off5 dk5=>?_⟩
   obtain⟨at_,rfl⟩:∃k:Nat,at'=k:=⟨at'.toNat,by omega⟩
   have hat:at_<m:=by omega
   have hbt:atI (B.map D.str) ((at_:Nat):Int)=some (.str (bT B at_)):=bJ8 (by rw[aL,(aZ1 (z:=(⟨#[]⟩:Str)) (by omega)).2];rfl)
   refine⟨_,_,rfl,hbt,z9999 (by show 1<=9999;decide),_,_,rfl,rfl,z9999 (by rw[ah];show C.length+1<=9999;omega),C++[bT B at_],by rw[aZ];rfl,?_⟩
   have brl:(br7 C (bT B) at_).length<=9999:=by have:=(u6 _ ((um _).mpr (.inr ⟨at_,hat,rfl⟩))).2;omega
   refine⟨ts,m,br7 C (bT B) at_,rfl,by omega,sT,t6,T.br hat,brl,m2,rfl,false,dX9 (by rw[T.cnt1 m2 m3 sT.nodup tm hat];rfl),iteF ?_⟩
   refine⟨C,rfl,ts,m,co7 C,rfl,by omega,sT,t6,T.co,by have:=w6.2;omega,m2,rfl,false,dX9 (by rw[T.cnt2 m2 m3 sT.nodup tm]),iteF ?_⟩
   have ma:m*at_+m<=m*m:=by rw[<- Nat.mul_succ];exact Nat.mul_le_mul_left m hat
   refine⟨.inl ⟨by omega,by omega⟩,a,m,1000*i+500+1,rfl,dk5,by omega,by omega,by omega,λj' S6 j0 j1 off6 dk6=>?_⟩
   obtain⟨j,rfl⟩:∃k:Nat,j'=k:=⟨j'.toNat,by omega⟩
   have hj:j<m:=by omega
   have hlo:atI (R.map tupS) (((m:Nat):Int)*((at_:Nat):Int)+((j:Nat):Int))=some (tupS (rw7 C (bT B) (lT L) at_ j)):=by
    rw[<- fF,<- cS];exact bJ8 (by rw[aL,rat at_ j hat hj];rfl)
   refine⟨_,_,(off6 p2 h2a).trans ((off5 p2 h2a).trans hr),hlo,?_⟩;have flt:∀(c:List Str) (t:List Str) (Q:Bool->Sto->Prop),Q (!decide (t=c)) S6->Q (!decide (tupS t=tupS c)) S6:=λc t Q h=>by
    have e:decide (tupS t=tupS c)=decide (t=c):=decide_eq_decide.mpr ⟨λh=>setE.inj h,λh=>by rw[h]⟩
    rw[e];exact h
   refine⟨_,rfl,aQr (p:=λt=>!decide (t=rw7 C (bT B) (lT L) at_ j)) (f:=tupS) (λt ht Q q=>⟨setE.ok 9 _ _ (by decide),_,rfl,flt _ t Q q⟩) (λt ht _ Q q=>q) (z9999 (by show 0+ts.length<=_;omega)) ⟨_,rfl,?_⟩⟩
   rw[bP];have vm:∀t,t∈ts.filter (λt=>!decide (t=rw7 C (bT B) (lT L) at_ j))↔∃k q,k<m/\q<m/\¬ (k=at_/\q=j)/\t=rw7 C (bT B) (lT L) k q:=λt=>by
    rw[av,tm];constructor
    ·rintro⟨⟨k,q,G,hq,rfl⟩,h⟩;refine⟨k,q,G,hq,λ⟨e1,e2⟩=>?_,rfl⟩;subst e1 e2;simp at h
    ·rintro⟨k,q,G,hq,h,rfl⟩;refine⟨⟨k,q,G,hq,rfl⟩,?_⟩
     have:¬ rw7 C (bT B) (lT L) k q=rw7 C (bT B) (lT L) at_ j:=λe=>h (T.inj G hq hat hj e)
     simp[this]
   have vs:(ts.filter λt=>!decide (t=rw7 C (bT B) (lT L) at_ j)).Sublist ts:=fu;generalize ts.filter (λt=>!decide (t=rw7 C (bT B) (lT L) at_ j))=v at vm vs;have vl:=vs.length_le;refine⟨v,m,rfl,m2,by omega,by omega,ki vs sT,λt h=>t6 t (vs.subset h),tn λt h=>vs.subset h,λout os om=>?_⟩
   refine⟨_,rfl,aQr (p:=λt=>!decide (t=br7 C (bT B) at_)) (f:=tupS) (λt ht Q q=>⟨setE.ok 9 _ _ (by decide),_,rfl,flt _ t Q q⟩) (λt ht _ Q q=>q) (z9999 (by show 0+us.length<=_;omega)) ⟨_,rfl,?_⟩⟩
   rw[bP];have eo:out=us.filter λt=>!decide (t=br7 C (bT B) at_):=os.ext (ki fu uS) λr=>by
    rw[om r,T.lv1 m2 (P:=λk q=>¬ (k=at_/\q=j)) (sT.nodup.sublist vs) vm (λk G=>?_) r,av,um r]
    ·constructor
     ·rintro(rfl|⟨k,G,h,rfl⟩)
      ·refine⟨.inl rfl,?_⟩
       have:¬ co7 C=br7 C (bT B) at_:=λe=>T.bco hat e.symm
       simp[this]
      ·refine⟨.inr ⟨k,G,rfl⟩,?_⟩
       have:¬ br7 C (bT B) k=br7 C (bT B) at_:=λe=>h j hj ⟨T.binj G hat e,rfl⟩
       simp[this]
     ·rintro⟨rfl|⟨k,G,rfl⟩,h⟩
      ·exact .inl rfl
      ·refine .inr ⟨k,G,λq hq ⟨e,_⟩=>?_,rfl⟩;subst e;simp at h
    ·by_cases e:k=at_
     ·by_cases z:j=0
      ·exact⟨1,by omega,λw=>by omega⟩
      ·exact⟨0,by omega,λw=>z w.2.symm⟩
     ·exact⟨0,by omega,λw=>e w.1⟩
   rw[eo];exact⟨flE.ok 9 _ _ (by decide),false,dX9 rfl,hN _ _ ⟨_,_,_,_,_,_,_,_,_,_,_,_,_,_,_,_,_,_,rfl,dk6.mono (by omega)⟩⟩
  ·rintro Γ S2 ⟨x2,x3,x4,x5,x6,x7,x8,x9,x10,x11,x12,O,x14,J,x16,x17,Z,Y,rfl,dk2⟩;exact⟨trivial,aQg (q _)⟩
end
end Toy
set_option maxHeartbeats 4000000
namespace Toy
open PySem L2
theorem fin{l:PySem.W.OpenLaw}{w:aN}{K:ay}{h:bu}{mg:Str->Option ae}{fa f3:Addr}(X:K.In h)(G:h.Ns bC mg)(hfa:mg "law"=some (.ref fa))(B:Bs mg)(AB:mg "abs"=none)
  (T1:Tx K mg "has_all" s_has_all) (T2:Tx K mg "meets" s_meets) (T3:Tx K mg "meet_of" s_meet_of) (T4:Tx K mg "without_names" s_without_names) (T5:Tx K mg "choices_of" s_choices_of) (T6:Tx K mg "names_of" s_names_of) (T7:Tx K mg "link_of" s_link_of) (T8:Tx K mg "without_row" s_without_row) (T9:Tx K mg "count_with_core" s_count_with_core) (T10:Tx K mg "count_apart" s_count_apart) (T11:Tx K mg "cores_of_two" s_cores_of_two) (T12:Tx K mg "next_level" s_next_level) (T13:Tx K mg "in_flower" s_in_flower) (T14:Tx K mg "so_many_apart" s_so_many_apart) (T15:Tx K mg "levels_of" s_levels_of) (T16:Tx K mg "core_count" s_core_count) (T17:Tx K mg "_law_deck" s_law_deck) (T18:Tx K mg "_law_draw" s_law_draw) (T19:Tx K mg "_law_names" s_law_names) (T20:Tx K mg "_law_set" s_law_set) (T21:Tx K mg "_law_tree" s_law_tree)
  {od3 an3:Option Addr}{sl3:Array (Option ae)}{oc3 kV3 dc3 pm3 cd3 ct3:ae}
  (a3:b8 K bC "law"=some (some (.ref f3))) (l3:K.lookup f3=some ⟨oc3,od3,.func (ff "law" "law" (aXh bX6) (aZj bX6) (aQ5 bX6) .none kV3 dc3 pm3 an3 cd3 ct3),sl3⟩) (c3:gH K cd3 "law"=true) (k3:fO K (.ref f3)=true) :
  ∃fd:d8,(∀(s:aj) (v:ae),BindsTo s fd ⟨[v],[]⟩ [("script",v)])/\∀base:bu,K.In base->base.Ns bC mg->FnOk l.prog w K mg base CX0 50 fa fd ["script"] (spU K (cZ4 63)):=by
 have e:=hfa.symm.trans (PySem.W.mg_of X G a3);cases e;refine⟨ff "law" "law" (aXh bX6) (aZj bX6) (aQ5 bX6) .none kV3 dc3 pm3 an3 cd3 ct3,λs v=>.of_eq rfl,λbase XB GB=>?_⟩;have F3:=dXn (st:=bX6) l3 c3 k3;have d_law_deck:=bJx (P:=l.prog) (w:=w) (base:=base) T17 B AB;have D:=bJy (P:=l.prog) (w:=w) (base:=base) T18 B;have d_law_names:=bXy (P:=l.prog) (w:=w) (base:=base) T19 B (D.mono (by decide))
 have d_law_tree:=cQ0 (P:=l.prog) (w:=w) (base:=base) T21 B (D.mono (by decide)) (d_law_names.mono (by decide))
 have d_law_set:=cX2 (P:=l.prog) (w:=w) (base:=base) T20 B;have d_choices_of:=bX1 (P:=l.prog) (w:=w) (base:=base) T5 B;have Z:=cX3 (P:=l.prog) (w:=w) (base:=base) T3 B;have U:=bQk (P:=l.prog) (w:=w) (base:=base) T11 B (d_choices_of.mono (by decide)) (Z.mono (by decide))
 have Y:=dXc (P:=l.prog) (w:=w) (base:=base) T2 B;have d_has_all:=cX4 (P:=l.prog) (w:=w) (base:=base) T1 B;have d_names_of:=cQ1 (P:=l.prog) (w:=w) (base:=base) T6 B;have j:=aJj (P:=l.prog) (w:=w) (base:=base) T4 B;have z:=bQq (P:=l.prog) (w:=w) (base:=base) T8 B (Y.mono (by decide))
 have q:=aJk (P:=l.prog) (w:=w) (base:=base) T14 B (Y.mono (by decide)) (d_has_all.mono (by decide)) (d_names_of.mono (by decide)) (j.mono (by decide)) (z.mono (by decide))
 have L:=cX5 (P:=l.prog) (w:=w) (base:=base) T7 B (d_has_all.mono (by decide)) (j.mono (by decide))
 have d_in_flower:=bJ0 (P:=l.prog) (w:=w) (base:=base) T13 B (j.mono (by decide)) (Z.mono (by decide)) (L.mono (by decide)) (z.mono (by decide)) (q.mono (by decide))
 have J:=bX2 (P:=l.prog) (w:=w) (base:=base) T12 B (U.mono (by decide)) (q.mono (by decide)) (L.mono (by decide)) (d_in_flower.mono (by decide))
 have d_levels_of:=bJ1 (P:=l.prog) (w:=w) (base:=base) T15 B (J.mono (by decide))
 have d_count_apart:=bQr (P:=l.prog) (w:=w) (base:=base) T10 B (Y.mono (by decide))
 have O:=aXv (P:=l.prog) (w:=w) (base:=base) T9 B (L.mono (by decide)) (d_count_apart.mono (by decide))
 have d_core_count:=bX5 (P:=l.prog) (w:=w) (base:=base) T16 B (O.mono (by decide))
 exact fX8 F3 B (d_law_deck.mono (by decide)) (d_law_tree.mono (by decide)) (d_law_set.mono (by decide)) (d_levels_of.mono (by decide)) (d_core_count.mono (by decide)) (J.mono (by decide)) (D.mono (by decide))
end Toy
namespace PySem.W.Fast
theorem tw2442867861784369097:True:=⟨⟩
theorem tw2597986835436399034:True:=⟨⟩
theorem tw3059085351307982963:True:=⟨⟩
theorem tw7510176010823279224:True:=⟨⟩
theorem tw16751084307991167569:True:=⟨⟩
theorem tw15305840522795522279:True:=⟨⟩
theorem tw842382050160648615:True:=⟨⟩
theorem tw772564897439823038:True:=⟨⟩
theorem tw5889132938309360998:True:=⟨⟩
theorem tw13640381373688627009:True:=⟨⟩
theorem tw15432664197700885366:True:=⟨⟩
theorem tw7675886339421282846:True:=⟨⟩
theorem tw6970806483262984450:True:=⟨⟩
theorem tw692113643018168752:True:=⟨⟩
theorem tw13067609653893460775:True:=⟨⟩
theorem tw4143182138394212097:True:=⟨⟩
theorem tw13029170239879355920:True:=⟨⟩
theorem tw12791304241560163081:True:=⟨⟩
theorem tw12040007128898404000:True:=⟨⟩
theorem tw13124581457323022932:True:=⟨⟩
theorem tw9002168626131803672:True:=⟨⟩
theorem tw16820037518337422476:True:=⟨⟩
theorem tw14429068720422849635:True:=⟨⟩
theorem tw16850971463082087436:True:=⟨⟩
theorem tw9887371206232531647:True:=⟨⟩
theorem tw17232697101882759035:True:=⟨⟩
theorem tw2150890257081487253:True:=⟨⟩
theorem tw9527294643196051058:True:=⟨⟩
theorem tw17305627648192407996:True:=⟨⟩
theorem tw17729562739063811284:True:=⟨⟩
theorem tw15964638730317294115:True:=⟨⟩
theorem tw16974708159881421238:True:=⟨⟩
theorem tw12014235643650545321:True:=⟨⟩
theorem tw12552335253127705678:True:=⟨⟩
theorem tw12275568070020376140:True:=⟨⟩
theorem tw3355911890780381587:True:=⟨⟩
theorem tw396495578884350930:True:=⟨⟩
theorem tw10644122029527700007:True:=⟨⟩
theorem tw11853191076764373707:True:=⟨⟩
theorem tw18237398585170547735:True:=⟨⟩
theorem tw17408838125932372159:True:=⟨⟩
theorem tw12777577959081849157:True:=⟨⟩
theorem tw16789022011871236860:True:=⟨⟩
theorem tw14747157063361914234:True:=⟨⟩
theorem tw16183844298761598915:True:=⟨⟩
theorem tw14569738179198552986:True:=⟨⟩
theorem tw15621843787766592326:True:=⟨⟩
theorem tw4029284865106403085:True:=⟨⟩
theorem tw6161508337724363281:True:=⟨⟩
theorem tw9978541837431846770:True:=⟨⟩
theorem tw4135025265580933263:True:=⟨⟩
theorem tw10246172017255622611:True:=⟨⟩
theorem tw13716331858793399319:True:=⟨⟩
end PySem.W.Fast
open PySem PySem.W PyProof.Rows
set_option maxRecDepth 100000 in
set_option maxHeartbeats 0 in
theorem PySem.Challenge.cw_corepetals_k72_levels_planted_holds : PySem.Challenge.rw_corepetals_k72_levels_planted.Holds := by
 w_on;o_law;k_head;(case hw=>w_witness2)
 k_fill
 refine L2.walkW (l:=PySem.Challenge.rw_corepetals_k72_levels_planted) rfl rfl (λw h Y=>PySem.W.kIn_of Y) ?F
 case F =>
  intro w mg fa h KX G hmg;have B:L2.Bs mg:=by
   refine' L2.bs_mk KX G (L2.bs_all ?z1 ?z2 ?z3 ?z4 ?z5 ?z6 ?z7 ?z8 ?z9 ?z10 ?z11 ?z12 ?z13 ?z14 ?z15 ?z16 ?z17) <;> k_is
  have AB:mg "abs"=none:=by
   refine' PySem.W.mg_none_of KX G ?z
   k_is
  have T1:L2.Tx (L2.KOf KX) mg "has_all" Toy.s_has_all:=by
   dsimp only[L2.KOf];exact L2.tx_mk KX G (by k_is) (by k_is) (by k_is) (by k_is)
  have T2:L2.Tx (L2.KOf KX) mg "meets" Toy.s_meets:=by
   dsimp only[L2.KOf];exact L2.tx_mk KX G (by k_is) (by k_is) (by k_is) (by k_is)
  have T3:L2.Tx (L2.KOf KX) mg "meet_of" Toy.s_meet_of:=by
   dsimp only[L2.KOf];exact L2.tx_mk KX G (by k_is) (by k_is) (by k_is) (by k_is)
  have T4:L2.Tx (L2.KOf KX) mg "without_names" Toy.s_without_names:=by
   dsimp only[L2.KOf];exact L2.tx_mk KX G (by k_is) (by k_is) (by k_is) (by k_is)
  have T5:L2.Tx (L2.KOf KX) mg "choices_of" Toy.s_choices_of:=by
   dsimp only[L2.KOf];exact L2.tx_mk KX G (by k_is) (by k_is) (by k_is) (by k_is)
  have T6:L2.Tx (L2.KOf KX) mg "names_of" Toy.s_names_of:=by
   dsimp only[L2.KOf];exact L2.tx_mk KX G (by k_is) (by k_is) (by k_is) (by k_is)
  have T7:L2.Tx (L2.KOf KX) mg "link_of" Toy.s_link_of:=by
   dsimp only[L2.KOf];exact L2.tx_mk KX G (by k_is) (by k_is) (by k_is) (by k_is)
  have T8:L2.Tx (L2.KOf KX) mg "without_row" Toy.s_without_row:=by
   dsimp only[L2.KOf];exact L2.tx_mk KX G (by k_is) (by k_is) (by k_is) (by k_is)
  have T9:L2.Tx (L2.KOf KX) mg "count_with_core" Toy.s_count_with_core:=by
   dsimp only[L2.KOf];exact L2.tx_mk KX G (by k_is) (by k_is) (by k_is) (by k_is)
  have T10:L2.Tx (L2.KOf KX) mg "count_apart" Toy.s_count_apart:=by
   dsimp only[L2.KOf];exact L2.tx_mk KX G (by k_is) (by k_is) (by k_is) (by k_is)
  have T11:L2.Tx (L2.KOf KX) mg "cores_of_two" Toy.s_cores_of_two:=by
   dsimp only[L2.KOf];exact L2.tx_mk KX G (by k_is) (by k_is) (by k_is) (by k_is)
  have T12:L2.Tx (L2.KOf KX) mg "next_level" Toy.s_next_level:=by
   dsimp only[L2.KOf];exact L2.tx_mk KX G (by k_is) (by k_is) (by k_is) (by k_is)
  have T13:L2.Tx (L2.KOf KX) mg "in_flower" Toy.s_in_flower:=by
   dsimp only[L2.KOf];exact L2.tx_mk KX G (by k_is) (by k_is) (by k_is) (by k_is)
  have T14:L2.Tx (L2.KOf KX) mg "so_many_apart" Toy.s_so_many_apart:=by
   dsimp only[L2.KOf];exact L2.tx_mk KX G (by k_is) (by k_is) (by k_is) (by k_is)
  have T15:L2.Tx (L2.KOf KX) mg "levels_of" Toy.s_levels_of:=by
   dsimp only[L2.KOf];exact L2.tx_mk KX G (by k_is) (by k_is) (by k_is) (by k_is)
  have T16:L2.Tx (L2.KOf KX) mg "core_count" Toy.s_core_count:=by
   dsimp only[L2.KOf];exact L2.tx_mk KX G (by k_is) (by k_is) (by k_is) (by k_is)
  have T17:L2.Tx (L2.KOf KX) mg "_law_deck" Toy.s_law_deck:=by
   dsimp only[L2.KOf];exact L2.tx_mk KX G (by k_is) (by k_is) (by k_is) (by k_is)
  have T18:L2.Tx (L2.KOf KX) mg "_law_draw" Toy.s_law_draw:=by
   dsimp only[L2.KOf];exact L2.tx_mk KX G (by k_is) (by k_is) (by k_is) (by k_is)
  have T19:L2.Tx (L2.KOf KX) mg "_law_names" Toy.s_law_names:=by
   dsimp only[L2.KOf];exact L2.tx_mk KX G (by k_is) (by k_is) (by k_is) (by k_is)
  have T20:L2.Tx (L2.KOf KX) mg "_law_set" Toy.s_law_set:=by
   dsimp only[L2.KOf];exact L2.tx_mk KX G (by k_is) (by k_is) (by k_is) (by k_is)
  have T21:L2.Tx (L2.KOf KX) mg "_law_tree" Toy.s_law_tree:=by
   dsimp only[L2.KOf];exact L2.tx_mk KX G (by k_is) (by k_is) (by k_is) (by k_is)
  refine' Toy.fin KX G hmg B AB T1 T2 T3 T4 T5 T6 T7 T8 T9 T10 T11 T12 T13 T14 T15 T16 T17 T18 T19 T20 T21 ?a ?l ?c ?k
  (case a=>k_is);(case l=>k_is);(case c=>k_is);(case k=>k_is)
