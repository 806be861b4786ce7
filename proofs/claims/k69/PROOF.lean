import PyProof.Rows.All
import Wide.All
import OpenK.AllK
import Wide.FinOn
import Lean
import PyProof.EqAt
import PyProof.EqKinds
import PyProof.TupleCall
import PySem.SetOps
import KE.KSortTup
import PyProof.Rows.SortShellK
import KE.KDictSum
import PyProof.Rows.StrJoin2
import PyProof.Rows.SumAny
import KE.KxText
import PyProof.ZipIter
import PyProof.Rows.FactsT2
import PyProof.Rows.ZipGen
import PyProof.StrOps2
import PyProof.ListRange
import PyProof.ListStr
import PyProof.FString5
import PyProof.AutoSeq1
import PyProof.MinMaxWalk
import PyProof.WalksMore
import PyProof.Rows.CallKwBuiltin
import KE.KMinKey
import PyProof.Rows.BitMore
import KE.KLam
import PyProof.TupleIter
import PySem.Challenge.RW_corepetals_k69_next_levels
open And renaming intro->jB
open Array renaming filterMap->j7,getD->hJ,getD_eq_getD_getElem?->b5,getElem?_eq_some_iff->dJ,getElem?_replicate->js,getElem?_setIfInBounds_ne->gX,getElem?_setIfInBounds_self_of_lt->fF,getElem?_toList->a7,length_toList->be,mem_of_getElem?->fD,mem_toList_iff->dz,perm_iff_toList_perm->cY,replicate->gq,size_append->dq,size_map->kh,size_push->dQ,toList_append->bM,toList_push->cy,toList_reverse->fN,toList_setIfInBounds->i7
open Array.Perm renaming refl->j8
open Bool renaming and_eq_true->aL,and_false->iS,eq_false_iff->eU,eq_iff_iff->eR,false_and->kc,false_eq_true->aS,false_ne_true->ce,not_eq_true->ie,not_eq_true'->dr,not_false->ki,not_true->fC,true_and->eY
open Classical renaming byContradiction->aX
open False renaming elim->eB
open ForInStep renaming done->br,yield->bF
open Int renaming emod_lt_of_pos->gx,emod_nonneg->iw,le_refl->jn,natCast_add->iy,toNat_natCast->cL,zero_add->j0
open LawfulBEq renaming eq_of_beq->g9
open LawfulMonad renaming pure_bind->jA
open List renaming Nodup->jV,all_cons->ik,all_eq_true->bB,all_map->iI,any_cons->jw,append_assoc->a6,append_nil->bD,countP_eq_length_filter->iz,drop_append->fU,drop_append_of_le_length->iq,drop_eq_getElem_cons->da,drop_eq_nil_of_le->bL,drop_length->fV,drop_sublist->ji,drop_zero->iT,eq_nil_of_length_eq_zero->bU,erase_sublist->jb,ext_getElem->hX,ext_getElem?->gM,filterMap_append->gY,filterMap_cons->cH,filter_append->fx,filter_congr->gU,filter_cons->cK,filter_eq_nil_iff->gT,filter_eq_self->iB,filter_sublist->fc,find?_cons->fA,flatMap_append->dP,flatMap_cons->cU,flatMap_map->ic,flatMap_singleton->gV,flatten_append->fb,flatten_cons->jm,flatten_singleton->eF,foldl_cons->j6,forIn_cons->eQ,forIn_nil->kj,getD_eq_getElem?_getD->ai,getElem?_append_left->dU,getElem?_append_right->cf,getElem?_cons_succ->jD,getElem?_cons_zero->jM,getElem?_drop->iU,getElem?_eq_getElem->ag,getElem?_eq_none->bY,getElem?_eq_some_iff->ay,getElem?_map->aQ,getElem?_set_ne->fG,getElem?_take_of_lt->f8,getElem_drop->gO,getElem_map->hZ,getElem_mem->dD,getElem_of_mem->bn,getElem_take->gN,getLastD_cons->i9,isEmpty_nil->jI,length->fj,length_append->ar,length_cons->aT,length_drop->bf,length_eq_zero_iff->gB,length_eraseIdx_of_lt->i4,length_erase_of_mem->gk,length_filter_le->aM,length_map->ae,length_nil->cZ,length_pos_iff->dg,length_pos_iff_exists_mem->ig,length_range->dh,length_range'->gz,length_singleton->dW,length_take->aK,lookup_cons->c8,mapM_toArray->jj,map_append->aW,map_congr_left->f6,map_cons->bd,map_map->cg,map_nil->fv,mem_append->aJ,mem_append_left->b7,mem_append_right->bm,mem_cons->aA,mem_cons_of_mem->am,mem_cons_self->ao,mem_filter->az,mem_filterMap->ft,mem_flatMap->fh,mem_map->aV,mem_of_getElem?->ak,mem_of_mem_drop->cM,mem_of_mem_take->cz,mem_range->bo,mem_reverse->jK,mem_singleton->aG,mergeSort_perm->iA,nil_append->bN,nil_sublist->jO,nodup_append->eg,nodup_cons->bS,nodup_nil->fL,nodup_range->jC,not_mem_nil->c9,of_mem_zip->j5,pairwise_append->bA,pairwise_cons->bb,pairwise_iff_getElem->bZ,pairwise_map->dj,pairwise_mergeSort->gD,pairwise_reverse->g6,pairwise_singleton->bP,perm_append_comm->dY,perm_append_singleton->iV,perm_ext_iff_of_nodup->eL,perm_middle->eH,range->aI,range'->b4,range'_concat->ja,range_succ->gp,replicate->fI,reverse_perm->jl,size_toArray->aq,sublist_append_left->jx,sum_cons->eZ,take_add_one->bJ,take_append_drop->bQ,take_append_of_le_length->d9,take_length->bR,take_of_length_le->bI,take_sublist->gF,take_zero->km,zipIdx_cons->jL,zip_cons_cons->fw,zip_nil_right->gy
open List.Nodup renaming mem_erase_iff->eX
open List.Pairwise renaming filter->cN,imp->kF,imp_of_mem->bC,nil->gS
open List.Perm renaming append_left->dX,append_right->eE,cons_inv->jc,refl->dM,swap->iW
open List.Sublist renaming cons₂->kC
open MonadExcept renaming tryCatch->ko
open Ne renaming symm->cv
open Option renaming getD_none->jz,isSome_iff_exists->b8,isSome_map->jp,map_eq_some_iff->bh
open Option.some renaming inj->aN
open Or renaming inl->aY,inr->h9
open PyProof.Rows renaming AllBare->jf,IntsAre->iE,Keyed->aO,SortKind->fg,SortSt->cW,StrsAre->jo,arrOf->aU,boot_enumerate->iF,callWith_type1->cT,elem'->eK,envOfC->jr,failedOf->fM,get?_update_seq->eS,lt_str->ku,mirror->dR,pairsOf->io,pairsOf_toList->i8,pendingOf->bT,reverseSlice'_eq->dF,seqObj->bV,setArr->cV,setPending->fO,slot_tuple_getitem->cF,sortedHeap->hW,wpS_bind->aC,wpS_forRange->bX,wpS_get->iJ,wpS_lift->i6,wpS_modify->cX,wpS_mono->dE,wpS_pure->aE
open PyProof.Rows.F renaming entry_set_update_loop->fZ,plain_set_update_loop->eD
open PyProof.Rows.SortSt renaming mk'->i5
open PySem renaming Around->bi,Builtin->cI,Comprehension->eW,Fin->iN,FuncData->d8,Heap->bj,IsPair->e7,IsZip->iC,Keyword->gJ,NameKind->fy,Paired->a9,Program->aD,SetTable->aZ,Shared->aj,Value->ad,World->aR,argBest->fW,assign->jq,assignEach->eV,attributeBase->gb,backTo->cD,backToKw->iR,behindInMarks->d7,binaryOp->eC,bootBuiltins->bH,cLine->cQ,cellsFrom->eP,codeAny->fu,codeAny_builtin->c5,codeAny_mono->iD,codeAny_of_tree->iu,compEnvC->gL,compTurn->eI,compareOp->cu,concat_meets->jT,firstArgMember->iX,foldedSetIterable->ca,getItem->jU,holding->fQ,isSubtype_stop->iY,keywordEach->fK,letOwnedTupleGo->eO,mainGlobals->bq,mem_of_lookup->e9,model->aF,noFill_tuple_add->jy,ofAClassStatement->fE,pickOrder->iM,plainId_quiet->eG,pushCells->fS,putSet_of->hU,pyIter->jR,pyNext->ff,rawInt->fq,relayAll->jF,seqItems?->jG,setAddHashed->jW,setField->kl,setsByText->jZ,sizeLine_eq->bu,sliceBounds->fk,standAt->fR,starEach->au,strKind->dG,swapsWith->g7,sysModules->gv,unsupported->fo,wpAny->aH,wpAny_Call_Name_kw->gw,wpAny_askSetting->dA,wpAny_attempt->gj,wpAny_bind->aa,wpAny_callSpecial?_slot->cj,wpAny_call_entry->b9,wpAny_field->cR,wpAny_forIn_list->jE,wpAny_holding->bG,wpAny_isInstance->fT,wpAny_ite_split->ix,wpAny_letGo->gE,wpAny_loadPart'->gu,wpAny_mono->eA,wpAny_newList->jv,wpAny_newObj_type->bz,wpAny_of_eq->jh,wpAny_onRaise->ip,wpAny_passesOwn->gn,wpAny_pure->af,wpAny_pyIter_enum->gR,wpAny_pyIter_list->gQ,wpAny_pyIter_tuple->eJ,wpAny_rule->db,wpAny_seqItems->cA,wpAny_setField_rec->bK,wpAny_setState_of->dN,wpAny_standAt->fB,wpAny_storeSet_of->gP,wpAny_truthy_bool->cS,wpAny_tryCatch->fP,wpAny_typeOf->gI,wpAny_updateSeq->fz,wpAny_updateSeq_pair->ir
open PySem.Around renaming under_plainId->cB
open PySem.Builtin.Builtins renaming bindParams->iK
open PySem.Builtin.Frozenset renaming addrOf->jt
open PySem.Builtin.Int renaming intBits->kx
open PySem.Builtin.List renaming listExtendWith->iH,listLengthHint->iG,listSameRef->ju,listTooLong->gc
open PySem.Builtin.Slice renaming sliceAdjust->fX,sliceApplied->fJ,slicePlaces->eM
open PySem.Builtin.SmallTypes renaming nextOf->cO,ownedTupleHandOut->f7,ownedTupleIsFree->du
open PySem.Builtin.Str renaming strSliceIndices->b6
open PySem.Builtin.Tuple renaming tupleExact->cE,tupleItemsOf->iQ
open PySem.Calls renaming Name_function_global->iO,call_function_entry->fY
open PySem.Code renaming compLoop->ij,compStart->gK
open PySem.Expr renaming Call->jN,SetComp->j3
open PySem.F renaming args_tuple_add_2->f9,args_tuple_lt_2->jH,entry_extend_loop->jd,entry_tuple_add->gA,entry_tuple_lt->jY,plainAttrs_list->gC,plain_extend_loop->eN,plain_list_iadd->jJ,plain_set_new->ka,slot_set_iter->kb,slot_tuple_add->gH,slot_tuple_lt->gZ
open PySem.Heap renaming IsTuple->jX,SameBut->dI,get?_push_of_some->ah,get?_push_size->av,get?_update_other->bE,get?_update_self->cG,lt_size->aB,size_push->cx
open PySem.Heap.SameBut renaming refl->kD,update->cr
open PySem.NameKind renaming cell->ii,free->a8
open PySem.Obj renaming mapSeq->bO,putSet->d0
open PySem.Paired renaming length->cq
open PySem.PassesOwn renaming never->cb
open PySem.SeqAt renaming EqAt->dw,RcNeAt->cP
open PySem.SeqAt.EqAt renaming of_refs->kB,same->j9,str_str->iZ
open PySem.SetTable renaming fill->kz,fits->ky,fresh->kg,grown->dO
open PySem.Str renaming ofString->aP
open PySem.Value renaming bool->kA,int->kr,isStrOf->d6,isStrOf_shape->e8,none->cC,ref->dZ,str->iL,type->dH
open PySem.W renaming Frag->ax,cellsFrom_some->jS,codeIn->gG,fnOf->eT,instObj->j4,keepIn->fH,kia_one->cJ,kitOne->iP,kitx_list->jg,lookIn->ke,methodObj->je,nsIn->bW
open PySem.pickOrder renaming go->kE
open Sum renaming inl->jP,inr->jQ
open True renaming intro->g8
set_option Elab.async false
set_option linter.all false
set_option maxRecDepth 100000
namespace L2
open PySem PySem.Spec PyProof.Rows
abbrev Key:=Sum Int Str
def dQt:Key->ad->Bool
 |.inl k,v=>ad.isInt k v
 |.inr x,v=>d6 x v
def keyH(w:aR):Key->Int
 |.inl k=>hashInt k
 |.inr x=>hashStr w x
theorem aQn:∀{k:Key}{v:ad},dQt k v=true->(∃i t,k=jP i/\v=kr i t)\/(∃x t,k=jQ x/\v=iL x t)
 |.inl i,v,h=>by
  obtain⟨t,e⟩:=ad.isInt_shape (k:=i) (v:=v) h;exact .inl ⟨i,t,rfl,e⟩
 |.inr x,v,h=>by
  obtain⟨t,e⟩:=e8 (x:=x) (v:=v) h;exact .inr ⟨x,t,rfl,e⟩
theorem eJo(a b:Int):decide ((jP a:Key)=jP b)=(a==b):=by
 by_cases e:a=b
 ·subst e;simp
 ·have h:¬ (jP a:Key)=jP b:=λq=>e (jP.inj q);rw[decide_eq_false h];exact(beq_eq_false_iff_ne.mpr e).symm
theorem eJp(a b:Str):decide ((jQ a:Key)=jQ b)=decide (a=b):=by
 by_cases e:a=b
 ·subst e;simp
 ·have h:¬ (jQ a:Key)=jQ b:=λq=>e (jQ.inj q);rw[decide_eq_false h,decide_eq_false e]
theorem eJq(a:Int)(b:Str):decide ((jP a:Key)=jQ b)=false:=decide_eq_false (λq=>nomatch q)
theorem eJr(a:Str)(b:Int):decide ((jQ a:Key)=jP b)=false:=decide_eq_false (λq=>nomatch q)
def bQ2(prog:aD)(w:aR):PySem.KeyKind prog w Key where
 is:=dQt
 hash:=keyH w
 inj:=λv a b ha hb=>by
  rcases aQn ha with⟨i,t,rfl,rfl⟩|⟨x,t,rfl,rfl⟩
  ·rcases aQn hb with⟨j,u,rfl,e⟩|⟨y,u,rfl,e⟩
   ·injection e with e1 _;rw[e1]
   ·exact nomatch e
  ·rcases aQn hb with⟨j,u,rfl,e⟩|⟨y,u,rfl,e⟩
   ·exact nomatch e
   ·injection e with e1 _;rw[e1]
 byValue:=λk v h=>by
  rcases aQn h with⟨i,t,rfl,rfl⟩|⟨x,t,rfl,rfl⟩ <;> rfl
 pyHash:=λhv h=>by
  rcases aQn hv with⟨i,t,rfl,rfl⟩|⟨x,t,rfl,rfl⟩
  ·exact wpAny_pyHash_int h
  ·exact wpAny_pyHash_str h
 eqBool:=λhu hv h=>by
  rcases aQn hu with⟨i,t,rfl,rfl⟩|⟨x,t,rfl,rfl⟩
  ·rcases aQn hv with⟨j,u,rfl,rfl⟩|⟨y,u,rfl,rfl⟩
   ·rw[eJo] at h;exact wpAny_eqBool_int h
   ·rw[eJq] at h;exact dw.int_str i t y u _ _ _ _ h
  ·rcases aQn hv with⟨j,u,rfl,rfl⟩|⟨y,u,rfl,rfl⟩
   ·rw[eJr] at h;exact dw.str_int x t j u _ _ _ _ h
   ·rw[eJp] at h;exact wpAny_eqBool_str h
 «strs»:=λk x t v h=>by
  rcases aQn h with⟨i,u,rfl,e⟩|⟨y,u,rfl,e⟩
  ·exact nomatch e
  ·injection e with e1 _
   subst e1;cases v <;> rfl
inductive V where
 |non|bl (b:Bool)|int (i:Int)|str (x:Str)|byt (b:Array UInt8)|flt (b:UInt64)|ref (a:Addr)|ty (n:String)
 deriving DecidableEq
def RelV:V->ad->Prop
 |.non,u=>u=cC
 |.bl b,u=>u=kA b
 |.int i,u=>∃t,u=kr i t
 |.str x,u=>∃t,u=iL x t
 |.byt b,u=>∃t,u=ad.bytes b t
 |.flt b,u=>∃t,u=ad.float b t
 |.ref a,u=>u=dZ a
 |.ty n,u=>u=dH n
abbrev Vals:List V->List ad->Prop:=a9 RelV
theorem Vals.length{xs:List V}{us:List ad}(r:Vals xs us):xs.length=us.length:=cq r
theorem Vals.get:∀{xs:List V}{us:List ad}{i:Nat}{x:V},Vals xs us->xs[i]?=some x->∃u,us[i]?=some u/\RelV x u
 |_,_,_,_,.nil,e=>by simp at e
 |_,_,0,_,.cons r _,e=>by simp at e;subst e;exact⟨_,rfl,r⟩
 |_,_,i+1,x,.cons _ t,e=>by
  obtain⟨u,h1,h2⟩:=Vals.get (i:=i) (x:=x) t (by simpa using e)
  exact⟨u,by simpa using h1,h2⟩
theorem Vals.set{x:V}{u:ad}(r:RelV x u):∀{xs:List V}{us:List ad}(i:Nat),Vals xs us->Vals (xs.set i x) (us.set i u)
 |_,_,_,.nil=>.nil
 |_,_,0,.cons _ t=>.cons r t
 |_,_,i+1,.cons q t=>.cons q (Vals.set r i t)
theorem Vals.append:∀{xs ys:List V}{us ws:List ad},Vals xs us->Vals ys ws->Vals (xs++ys) (us++ws)
 |_,_,_,_,.nil,s=>s
 |_,_,_,_,.cons r t,s=>.cons r (Vals.append t s)
theorem Vals.take:∀{xs:List V}{us:List ad}(n:Nat),Vals xs us->Vals (xs.take n) (us.take n)
 |_,_,0,_=>.nil
 |_,_,_+1,.nil=>.nil
 |_,_,n+1,.cons r t=>.cons r (Vals.take n t)
theorem Vals.drop:∀{xs:List V}{us:List ad}(n:Nat),Vals xs us->Vals (xs.drop n) (us.drop n)
 |_,_,0,r=>r
 |_,_,_+1,.nil=>.nil
 |_,_,n+1,.cons _ t=>Vals.drop n t
def RelO:Option V->Option ad->Prop
 |some v,some u=>RelV v u
 |none,none=>True
 |_,_=>False
def KV{κ:Type}:List (κ×V)->List (κ×ad)->Prop:=a9 λ(p:κ×V) (q:κ×ad)=>p.1=q.1/\RelV p.2 q.2
def kV:Key->V
 |.inl i=>.int i
 |.inr x=>.str x
inductive HO where
 |lst (xs:List V)
 |tup (xs:List V)
 |dK (kvs:List (Key×V))|dT (kvs:List (List Key×V))
 |set (S:Int->Bool) (n:Nat)
 |ins (C dx:Addr) (fs:List (Str×V))
 |own (x:Addr)
 |xd (fs:List (Str×V))
 |met (f x:Addr)
 |rng (lo hi:Int)
 |frz (o:Obj) (u:HO)
 |tbl (ps:Array ad)
 |ext (φ:bj->Prop)
abbrev Hp:=Addr->Option HO
def upd(H:Hp)(a:Addr)(o:HO):Hp:=λb=>if b=a then some o else H b
theorem aQ9{H:Hp}{a:Addr}{o:HO}:upd H a o a=some o:=by unfold upd;rw[if_pos rfl]
theorem upd_ne{H:Hp}{a b:Addr}{o:HO}(h:b≠a):upd H a o b=H b:=by unfold upd;rw[if_neg h]
theorem aQ8{H:Hp}{a b:Addr}{o:HO}(h:H a=some o)(h':H b=none):a≠b:=by
 intro e;subst e;rw[h] at h';cases h'
section
variable(P:aD)(w:aR)
def ObjOk(H:Hp)(h:bj)(a:Addr):HO->Prop
 |.lst xs=>xs.length<=sizeLine/\∃(its:List ad) (n:Nat),Vals xs its/\h.get? a=some {cls:=.type "list",data:=.seq its.toArray n}
 |.tup xs=>xs.length<=sizeLine/\∃its:List ad,Vals xs its/\IsTup h a its.toArray/\∀o,h.get? a=some o->o.dict=none
 |.dK kvs=>kvs.length<=sizeLine/\(a==gv)=false/\∃vs,KV kvs vs/\h.DictOf (bQ2 P w) a vs
 |.dT kvs=>kvs.length<=sizeLine/\(a==gv)=false/\∃xs:List (List Key×Addr×ad),
   a9 (λ(p:List Key×V) (q:List Key×Addr×ad)=>p.1=q.1/\H q.2.1=some (.tup (p.1.map kV))/\RelV p.2 q.2.2) kvs xs /\
   ∃o es ep,h.get? a=some o/\o.ExactDict/\o.data=.dict es ep/\es.toList=xs.map (entryOfKey (tupleKind (bQ2 P w)))/\(xs.map (·.1)).Nodup
 |.set S n=>h.SetOf (intKind P w) a S n
 |.ins C dx fs=>H dx=some (.own a)/\fs.length<=1000/\dx≠a/\h.get? a=some (j4 C dx) /\
   ∃mA,h.Ns1 dx mA/\(∀f,RelO (fs.lookup f) (mA f))/\PySem.Within mA (fs.map (·.1))
 |.own _=>∃o,h.get? a=some o
 |.xd fs=>∃mA,h.Ns1 a mA/\∀f,RelO (fs.lookup f) (mA f)
 |.rng lo hi=>∃t u v,h.get? a=some {cls:=.type "range",data:=.fields #[.int lo t,.int hi u,.int 1 v]}
 |.frz o u=>h.get? a=some o/\ObjOk H h a u
 |.tbl ps=>h.get? a=some {cls:=.none,data:=.fields ps}
 |.met f x=>h.get? a=some (je (.ref f) (.ref x))
 |.ext φ=>φ h/\(∃o,h.get? a=some o)/\∀h1 h2:bj,φ h1->(∀o,h1.get? a=some o->h2.get? a=some o)->φ h2
def HOk(H:Hp)(h:bj):Prop:=∀a o,H a=some o->ObjOk P w H h a o
end
section
variable{P:aD}{w:aR}{H H':Hp}{h h':bj}{a:Addr}{o:HO}
theorem ObjOk.lt(x:ObjOk P w H h a o):a<h.objs.size:=by
 cases o with
 |lst xs=>obtain⟨_,_,_,_,e⟩:=x;exact aB e
 |tup xs=>obtain⟨_,_,_,p⟩:=x;exact p.1.lt
 |dK d=>obtain⟨_,_,_,_,o,_,_,e,_⟩:=x;exact aB e
 |dT d=>obtain⟨_,_,_,_,o,_,_,e,_⟩:=x;exact aB e
 |set S n=>obtain⟨o,_,_,_,e,_⟩:=x;exact aB e
 |ins C dx fs=>obtain⟨_,_,_,e,_⟩:=x;exact aB e
 |own y=>obtain⟨_,e⟩:=x;exact aB e
 |xd fs=>obtain⟨_,⟨_,_,_,e,_⟩,_⟩:=x;exact aB e
 |rng lo hi=>obtain⟨_,_,_,e⟩:=x;exact aB e
 |frz i u=>obtain⟨e,_⟩:=x;exact aB e
 |tbl ps=>exact aB (show h.get? a=some _ from x)
 |met f y=>exact aB (show h.get? a=some _ from x)
 |ext φ=>obtain⟨_,⟨_,e⟩,_⟩:=x;exact aB e
theorem Paired.mapP{α β:Type}{F G:α->β->Prop}:∀{l₁:List α}{l₂:List β},a9 F l₁ l₂->(∀a b,F a b->G a b)->a9 G l₁ l₂
 |_,_,.nil,_=>.nil
 |_,_,.cons r t,f=>.cons (f _ _ r) (Paired.mapP t f)
theorem ObjOk.stay(x:ObjOk P w H h a o)(k:∀b u,(b=a\/H b=some (.own a))->h.get? b=some u->h'.get? b=some u)
  (ho:∀b,H b=some (.own a)->H' b=some (.own a)) (ht:∀b xs,H b=some (.tup xs)->H' b=some (.tup xs)):ObjOk P w H' h' a o:=by
 induction o with
 |lst xs=>obtain⟨z,B,n,r,e⟩:=x;exact⟨z,B,n,r,k _ _ (.inl rfl) e⟩
 |tup xs =>
  obtain⟨z,B,r,⟨i,e,c⟩,nd⟩:=x;exact⟨z,B,r,⟨i,k _ _ (.inl rfl) e,c⟩,λo q=>by rw[k _ _ (.inl rfl) e] at q;cases q;exact nd _ e⟩
 |dK J=>obtain⟨z,y,vs,r,i,es,j,e,c⟩:=x;exact⟨z,y,vs,r,i,es,j,k _ _ (.inl rfl) e,c⟩
 |dT J =>
  obtain⟨z,y,xs,r,i,es,j,e,c⟩:=x;exact⟨z,y,xs,Paired.mapP r λp q z=>⟨z.1,ht _ _ z.2.1,z.2.2⟩,i,es,j,k _ _ (.inl rfl) e,c⟩
 |set S n=>obtain⟨i,es,j,t,e,c⟩:=x;exact⟨i,es,j,t,k _ _ (.inl rfl) e,c⟩
 |ins C dx fs =>
  obtain⟨d,z,ne,e,G,⟨D,es,j,O,c⟩,r⟩:=x;exact⟨ho _ d,z,ne,k _ _ (.inl rfl) e,G,⟨D,es,j,k _ _ (.inr d) O,c⟩,r⟩
 |own y=>obtain⟨i,e⟩:=x;exact⟨i,k _ _ (.inl rfl) e⟩
 |xd fs=>obtain⟨G,⟨D,es,j,e,c⟩,r⟩:=x;exact⟨G,⟨D,es,j,k _ _ (.inl rfl) e,c⟩,r⟩
 |rng lo hi=>obtain⟨t,u,v,e⟩:=x;exact⟨t,u,v,k _ _ (.inl rfl) e⟩
 |frz i u L=>obtain⟨e,q⟩:=x;exact⟨k _ _ (.inl rfl) e,L q⟩
 |tbl ps =>
  have e:h.get? a=some {cls:=.none,data:=.fields ps}:=x;show h'.get? a=some {cls:=.none,data:=.fields ps};exact k a _ (.inl rfl) e
 |met f y =>
  have e:h.get? a=some (je (.ref f) (.ref y)):=x;show h'.get? a=some (je (.ref f) (.ref y));exact k a _ (.inl rfl) e
 |ext φ=>obtain⟨p,⟨o,e⟩,st⟩:=x;exact⟨st _ _ p λo q=>k _ _ (.inl rfl) q,⟨o,k _ _ (.inl rfl) e⟩,st⟩
theorem cQb{g:bj}{arr:Array ad}{n:Nat}:∀o,(g.push {cls:=.type "tuple",data:=.seq arr n}).get? g.objs.size=some o->o.dict=none:=λo e=>by
 rw[av _ rfl] at e;cases e;rfl
theorem HOk.lt(x:HOk P w H h)(e:H a=some o):a<h.objs.size:=(x a o e).lt
theorem HOk.fresh(x:HOk P w H h)(e:h.objs.size<=a):H a=none:=by
 cases q:H a with
 |none=>rfl
 |some u=>exact absurd (Nat.lt_of_lt_of_le (x.lt q) e) (Nat.lt_irrefl _)
theorem HOk.kept(x:HOk P w H h)(k:∀b u,h.get? b=some u->h'.get? b=some u):HOk P w H h':=λa o e =>
 (x a o e).stay (λb u _ q=>k b u q) (λ_ q=>q) λ_ _ q=>q
theorem HOk.laid(x:HOk P w H h)(k:∀b u,h.get? b=some u->h'.get? b=some u)(hp:h.objs.size<=a)(new:ObjOk P w (upd H a o) h' a o):HOk P w (upd H a o) h':=λb u e=>by
 have d:=x.fresh hp
 by_cases i:b=a
 ·subst i;rw[aQ9] at e;cases e;exact new
 ·rw[upd_ne i] at e;exact(x b u e).stay (λc v _ q=>k c v q) (λc q=>by rw[upd_ne (aQ8 q d)];exact q) λc xs q=>by rw[upd_ne (aQ8 q d)];exact q
end
def Rd(H:Hp)(a:Addr)(u:HO):Prop:=H a=some u\/∃o,H a=some (.frz o u)
theorem Rd.ok{P:aD}{w:aR}{H:Hp}{h:bj}{a:Addr}{u:HO}(r:Rd H a u)(x:HOk P w H h):ObjOk P w H h a u:=by
 rcases r with r|⟨o,r⟩
 ·exact x a u r
 ·obtain⟨_,q⟩:=x a _ r;exact q
def Mut:Option HO->Prop
 |some (.lst _)=>True
 |some (.dK _)=>True
 |some (.dT _)=>True
 |some (.set _ _)=>True
 |some (.ins _ _ _)=>True
 |some (.ext _)=>True
 |_=>False
section
variable{P:aD}{w:aR}{H:Hp}{h h':bj}{x e:Addr}{o':HO}
theorem HOk.write(ok:HOk P w H h)(mu:Mut (H x))(he:e=x\/H e=some (.own x))(k:∀b u,b≠e->h.get? b=some u->h'.get? b=some u)(heo:∃u,h'.get? e=some u)
  (new:ObjOk P w (upd H x o') h' x o'):HOk P w (upd H x o') h':=λb u q=>by
 have i:∀c y,H c=some (.own y)->c≠x:=λc y r z=>by subst z;rw[r] at mu;exact mu
 have ntup:∀c xs,H c=some (.tup xs)->c≠x:=λc xs r z=>by subst z;rw[r] at mu;exact mu
 by_cases B:b=x
 ·subst B;rw[aQ9] at q;cases q;exact new
 ·rw[upd_ne B] at q
  by_cases d:b=e
  ·have q':H b=some (.own x):=by
    rcases he with z|z
    ·exact absurd (d.trans z) B
    ·rw[d];exact z
   rw[q] at q';cases q';obtain⟨v,D⟩:=heo;exact⟨v,by rw[d];exact D⟩
  ·refine(ok b u q).stay (λc v j r=>k c v ?_ r) (λc r=>by rw[upd_ne (i c b r)];exact r) λc xs r=>by rw[upd_ne (ntup c xs r)];exact r
   rcases j with rfl|j
   ·exact d
   ·rintro rfl;rcases he with z|z
    ·exact i c b j z
    ·rw[j] at z;cases z;exact B rfl
end
structure Un(fs ex:List Addr)(H H':Hp)(h h':bj):Prop where
 keep:∀b o,h.get? b=some o->H b=none->b∉fs->b∉ex->h'.get? b=some o
 slot:∀b o,h.get? b=some o->H b=none->b∈fs->b∉ex->∃sl,h'.get? b=some {o with slots:=sl}
 free:∀b o,h.get? b=some o->H b=none->b∉ex->H' b=none
 there:∀b o,h.get? b=some o->b∉ex->∃o',h'.get? b=some o'
 tups:∀b xs,H b=some (.tup xs)->H' b=some (.tup xs)
 frzs:∀b o u,H b=some (.frz o u)->H' b=some (.frz o u)
 tbls:∀b ps,H b=some (.tbl ps)->∃more,H' b=some (.tbl (ps++more))
section
variable{fs fs' ex ex':List Addr}{H H1 H2:Hp}{h h1 h2 h':bj}{a x e:Addr}{o:HO}
theorem Un.any(u:Un fs ex H H1 h h1){b:Addr}{ob:Obj}(q:h.get? b=some ob)(n:H b=none)(hx:b∉ex):∃sl,h1.get? b=some {ob with slots:=sl}:=by
 by_cases d:b∈fs
 ·exact u.slot b ob q n d hx
 ·exact⟨ob.slots,u.keep b ob q n d hx⟩
theorem Un.kept(k:∀b u,h.get? b=some u->h'.get? b=some u):Un fs ex H H h h' :=
 ⟨λb d q _ _ _=>k b d q,λb d q _ _ _=>⟨d.slots,k b d q⟩,λ_ _ _ n _=>n,λb d q _=>⟨d,k b d q⟩,λ_ _ q=>q,λ_ _ _ q=>q,λ_ ps q=>⟨#[],by rw[q];simp⟩⟩
theorem Un.refl:Un fs ex H H h h:=Un.kept λ_ _ q=>q
theorem Un.laid(k:∀b u,h.get? b=some u->h'.get? b=some u)(hp:h.objs.size<=a)(hn:H a=none):Un fs ex H (upd H a o) h h' where
 keep:=λb u q _ _ _=>k b u q
 slot:=λb u q _ _ _=>⟨u.slots,k b u q⟩
 free:=λb u q n _=>by rw[upd_ne (Nat.ne_of_lt (Nat.lt_of_lt_of_le (aB q) hp))];exact n
 there:=λb u q _=>⟨u,k b u q⟩
 tups:=λb xs q=>by rw[upd_ne (aQ8 q hn)];exact q
 frzs:=λb u xs q=>by rw[upd_ne (aQ8 q hn)];exact q
 tbls:=λb ps q=>⟨#[],by rw[upd_ne (aQ8 q hn),q];simp⟩
theorem Un.write(mu:Mut (H x))(he:e=x\/H e=some (.own x))(k:∀b u,b≠e->h.get? b=some u->h'.get? b=some u)(heo:∃u,h'.get? e=some u):Un fs ex H (upd H x o) h h':=by
 have i:∀b,H b=none->b≠x:=λb n z=>by subst z;rw[n] at mu;exact mu
 have j:∀b,H b=none->b≠e:=λb n z=>by
  subst z;rcases he with r|r
  ·exact i b n r
  ·rw[n] at r;cases r
 have hm:∀b u,H b=some u->¬ Mut (some u)->b≠x:=λb u q nm z=>by subst z;rw[q] at mu;exact nm mu
 refine⟨λb u q n _ _=>k b u (j b n) q,λb u q n _ _=>⟨u.slots,k b u (j b n) q⟩,λb u q n _=>by rw[upd_ne (i b n)];exact n,λb u q _=>?_,
  λb xs q=>by rw[upd_ne (hm b _ q λz=>z)];exact q,λb u xs q=>by rw[upd_ne (hm b _ q λz=>z)];exact q,λb ps q=>⟨#[],by rw[upd_ne (hm b _ q λz=>z),q];simp⟩⟩
 by_cases d:b=e
 ·subst d;exact heo
 ·exact⟨u,k b u d q⟩
end
def trk(h:bj)(H:Hp):List Addr:=(aI h.objs.size).filter λa=>(H a).isSome
def hidT(h:bj)(H:Hp):bj:=PySem.W.hideAll h (trk h H)
theorem cX9(h:bj)(H:Hp):(hidT h H).objs.size=h.objs.size:=PySem.W.hideAll_size _ _
theorem dQu{h:bj}{H:Hp}{b:Addr}{o:Obj}(e:h.get? b=some o)(n:H b=none):(hidT h H).get? b=some o :=
 PySem.W.hideAll_get _ e λhm=>by
  have q:(H b).isSome=true:=(az.mp hm).2;rw[n] at q;simp at q
theorem eQ3{h:bj}{H:Hp}{b:Addr}{o:Obj}(e:(hidT h H).get? b=some o):h.get? b=some o/\H b=none:=by
 have d:h.get? b=some o:=PySem.W.of_hideAll (trk h H) e;refine⟨d,?_⟩;cases q:H b with
 |none=>rfl
 |some x =>
  have hm:b∈trk h H:=az.mpr ⟨bo.mpr (aB d),by simp[q]⟩
  have z:(hidT h H).get? b=none:=PySem.W.hideAll_none (trk h H) hm;rw[z] at e;cases e
structure Mod(K:ax)(mg:Str->Option ad)(base:bj):Prop where
 kin:K.In base
 glob:base.Ns bq mg
 blt:∃mb,base.Ns builtinsNs mb/\∀x:Str,x ≠ "__name__"->mb x=bH x
 nolimit:base.NoLimit
structure Cx where
 prog:aD
 w:aR
 K:ax
 mg:Str->Option ad
 base:bj
 A:bi
 N:List Str
 s₀:aj
 H₀:Hp
 env:Env
 outer:List Env
 stack:List Env
 ex:List Addr
 fn:Str->Bool
 calm:Bool
 pn:List (Addr×Obj)
 xe:ad->aj->Prop
def frs(l:List Env):List Addr:=l.filterMap (·.frame)
abbrev Cx.fs(X:Cx):List Addr:=frs X.outer
def Vis(sc:Scope)(x:Str):Prop:=sc.names.lookup x=some .local\/sc.names.lookup x=some .cell\/sc.names.lookup x=some .free
def Loc(sc:Scope)(x:Str):Prop:=sc.names.lookup x=some .local\/sc.names.lookup x=some .cell
def Look(env:Env)(h:bj)(m:Str->Option ad)(x:Str)(u:ad):Prop :=
 (env.kindOf x=some .local/\m x=some u)\/((env.kindOf x=some .cell\/env.kindOf x=some .free)/\∃c,env.cells.lookup x=some c/\h.IsCell c (some u))
structure Cx.Ok(X:Cx):Prop where
 mod:Mod X.K X.mg X.base
 kind:X.env.scope.kind=.function
 glob:X.env.globals=bq
 blt:X.env.builtins=builtinsNs
 above:X.s₀.heap.objs.size<=X.env.locals
 inj:∀x y c,X.env.cells.lookup x=some c->X.env.cells.lookup y=some c->x=y
 has:∀x,(X.env.kindOf x=some .cell\/X.env.kindOf x=some .free)->∃c,X.env.cells.lookup x=some c
 cab:∀x c,X.fn x=true->X.env.cells.lookup x=some c->X.s₀.heap.objs.size<=c
 hd:X.calm=true->X.A.handled=none
 frames:X.A.frames=some X.stack
 gd:X.A.guards=some []
 stk:X.stack=X.outer\/(X.stack=X.env::X.outer/\X.env.frame=some X.env.locals)
 exf:∀b∈X.ex,b≠X.env.locals/\∀x c,X.env.cells.lookup x=some c->c≠b
 bs:∀b o,X.base.get? b=some o->X.s₀.heap.get? b=some o/\X.H₀ b=none
 bsz:X.base.objs.size<=X.s₀.heap.objs.size
 noex:∀b o,X.base.get? b=some o->b∉X.ex
 exfs:∀b∈X.ex,b∉X.fs
 funs:X.s₀.heap.FunFrames X.base X.outer
 frf:∀b∈X.fs,X.H₀ b=none
structure Inv(X:Cx)(pins:List (Addr×Obj))(σ:List (Option V))(H:Hp)(s:aj):Prop where
 ok:X.Ok
 os:s.os=X.s₀.os
 bare:jf s.gens
 base:Un X.fs X.ex X.H₀ H X.s₀.heap s.heap
 loc:∃m,s.heap.Ns X.env.locals m/\∀(i:Nat) (x:Str) (v:V),X.N[i]?=some x->σ[i]?=some (some v)->Vis X.env.scope x->∃u,RelV v u/\Look X.env s.heap m x u
 cell:∀x c,X.env.cells.lookup x=some c->∃v,s.heap.IsCell c v
 free:H X.env.locals=none
 freeC:∀x c,X.env.cells.lookup x=some c->H c=none
 pin:∀p∈X.pn++pins,s.heap.get? p.1=some p.2/\H p.1=none/\p.1≠X.env.locals/\p.1∉X.fs/\∀v,p.2.data≠.cell v
 hok:HOk X.prog X.w H s.heap
 len:σ.length=X.N.length
section
variable{X:Cx}{pins:List (Addr×Obj)}{σ:List (Option V)}{H H':Hp}{s:aj}{h':bj}
theorem Cx.Ok.nofr(ok:X.Ok){b:Addr}{o:Obj}(e:X.base.get? b=some o):b∉X.fs:=λd=>by
 have:=(ok.funs.mem d).1
 rw[e] at this;cases this
theorem Inv.bs(I:Inv X pins σ H s):∀b o,X.base.get? b=some o->s.heap.get? b=some o/\H b=none:=λb o e =>
 ⟨I.base.keep b o (I.ok.bs b o e).1 (I.ok.bs b o e).2 (I.ok.nofr e) (I.ok.noex b o e),I.base.free b o (I.ok.bs b o e).1 (I.ok.bs b o e).2 (I.ok.noex b o e)⟩
theorem Inv.bk(I:Inv X pins σ H s):∀b o,X.base.get? b=some o->s.heap.get? b=some o:=λb o e=>(I.bs b o e).1
theorem Inv.mod(I:Inv X pins σ H s):Mod X.K X.mg X.base:=I.ok.mod
theorem Inv.kIn(I:Inv X pins σ H s):X.K.In s.heap:=I.ok.mod.kin.keeps I.bk
theorem Inv.lt(I:Inv X pins σ H s):X.env.locals<s.heap.objs.size:=let ⟨_,d,_⟩:=I.loc;d.lt
theorem Inv.sz(I:Inv X pins σ H s):X.s₀.heap.objs.size<=s.heap.objs.size:=Nat.le_trans I.ok.above (Nat.le_of_lt I.lt)
theorem Inv.nofs(I:Inv X pins σ H s){a:Addr}(h:s.heap.objs.size<=a):a∉X.fs:=λi=>by
 obtain⟨_,o,d,_⟩:=I.ok.funs.mem i;exact absurd (Nat.lt_of_lt_of_le (aB d) (Nat.le_trans I.sz h)) (Nat.lt_irrefl _)
theorem Inv.cne(I:Inv X pins σ H s):∀x c,X.env.cells.lookup x=some c->c≠X.env.locals:=λx c e z=>by
 obtain⟨v,o,ho,hd⟩:=I.cell x c e;obtain⟨m,⟨o',es,j,d,i,_⟩,_⟩:=I.loc;rw[z,d] at ho;cases ho;rw[i] at hd;cases hd
theorem Inv.funs(I:Inv X pins σ H s):s.heap.FunFrames X.base X.outer:=by
 have all:∀(l:List Env),(∀b∈frs l,b∈X.fs)->X.s₀.heap.FunFrames X.base l->s.heap.FunFrames X.base l:=by
  intro l
  induction l with
  |nil=>intro _ _;trivial
  |cons env r B =>
   intro j hl;obtain⟨O,⟨L,o,hf,J,G,hd⟩,D⟩:=hl;have i:L∈X.fs:=j L (by unfold frs;rw[cH,hf];exact ao)
   obtain⟨sl,e⟩:=I.base.slot L o G (I.ok.frf L i) i λz=>I.ok.exfs L z i;exact⟨O,⟨L,_,hf,J,e,hd⟩,B (λb d=>j b (by unfold frs;rw[cH,hf];exact am _ d)) D⟩
 exact all X.outer (λ_ d=>d) I.ok.funs
theorem Inv.stack(I:Inv X pins σ H s):s.heap.FunFrames X.base X.stack:=by
 rcases I.ok.stk with e|⟨e,hf⟩
 ·rw[e];exact I.funs
 ·rw[e];obtain⟨m,d,_⟩:=I.loc;refine .cons (by rw[I.ok.kind];decide) hf d ?_ I.funs
  exact bj.get?_none_of_le (Nat.le_trans I.ok.bsz I.ok.above)
theorem Inv.stkSub(I:Inv X pins σ H s):∀b∈frs X.stack,b∈X.env.locals::X.fs:=λb d=>by
 rcases I.ok.stk with e|⟨e,hf⟩
 ·rw[e] at d;exact am _ d
 ·rw[e] at d;unfold frs at d;rw[cH,hf] at d;exact d
theorem Inv.stkFree(I:Inv X pins σ H s):∀b∈frs X.stack,H b=none:=λb d=>by
 rcases aA.mp (I.stkSub b d) with e|d
 ·rw[e];exact I.free
 ·obtain⟨_,o,i,_⟩:=I.ok.funs.mem d;exact I.base.free b o i (I.ok.frf b d) λz=>I.ok.exfs b z d
theorem Inv.step{g':Array GenState}{t':Nat}{d':Drawn}{ch:List Addr}(I:Inv X pins σ H s)
  (hch:∀b∈ch,(b∈X.ex\/X.s₀.heap.objs.size<=b)/\b≠X.env.locals/\(∀x c,X.env.cells.lookup x=some c->c≠b)/\∀p∈X.pn++pins,p.1≠b)
  (keep:∀b o,b≠X.env.locals->b∉X.fs->b∉ch->s.heap.get? b=some o->H b=none->h'.get? b=some o)
  (slot:∀b o,b≠X.env.locals->b∈X.fs->b∉ch->s.heap.get? b=some o->H b=none->∃sl,h'.get? b=some {o with slots:=sl}) (free:∀b o,b∉ch->s.heap.get? b=some o->H b=none->H' b=none)
  (there:∀b o,b∉ch->s.heap.get? b=some o->∃o',h'.get? b=some o')
  (tups:∀b xs,H b=some (.tup xs)->H' b=some (.tup xs)) (frzs:∀b o u,H b=some (.frz o u)->H' b=some (.frz o u)) (tbls:∀b ps,H b=some (.tbl ps)->∃more,H' b=some (.tbl (ps++more)))
  (ns:∀m,s.heap.Ns X.env.locals m->h'.Ns X.env.locals m) (hok:HOk X.prog X.w H' h') (hg:jf g') :
  Inv X pins σ H' {s with heap:=h',gens:=g',drawn:=d',toks:=t'}:=by
 have O:∀b o,X.s₀.heap.get? b=some o->b≠X.env.locals:=λb o e=>Nat.ne_of_lt (Nat.lt_of_lt_of_le (aB e) I.ok.above);have D:∀b o,X.s₀.heap.get? b=some o->b∉X.ex->b∉ch:=λb o e j J=>by
  rcases(hch b J).1 with z|z
  ·exact j z
  ·exact absurd (Nat.lt_of_lt_of_le (aB e) z) (Nat.lt_irrefl _)
 have cellK:∀x c,X.env.cells.lookup x=some c->∀v,s.heap.IsCell c v->h'.IsCell c v:=λx c e v ⟨o,L,hd⟩=>by
  have B:c∉ch:=λz=>(hch c z).2.2.1 x c e rfl
  by_cases hc:c∈X.fs
  ·obtain⟨sl,q⟩:=slot c o (I.cne x c e) hc B L (I.freeC x c e);exact⟨_,q,hd⟩
  ·exact⟨o,keep c o (I.cne x c e) hc B L (I.freeC x c e),hd⟩
 refine⟨I.ok,I.os,hg,⟨λb o e n J j=>?_,λb o e n J j=>?_,λb o e n j=>?_,λb o e j=>?_,λb xs e=>tups b xs (I.base.tups b xs e),λb o xs e=>frzs b o xs (I.base.frzs b o xs e),λb ps e=>?_⟩,?_,λx c e=>?_,?_,λx c e=>?_,λp hp=>?_,hok,I.len⟩
 ·exact keep b o (O b o e) J (D b o e j) (I.base.keep b o e n J j) (I.base.free b o e n j)
 ·obtain⟨sl,G⟩:=I.base.slot b o e n J j;obtain⟨Y,U⟩:=slot b _ (O b o e) J (D b o e j) G (I.base.free b o e n j);exact⟨Y,U⟩
 ·obtain⟨o',G⟩:=I.base.there b o e j;exact free b o' (D b o e j) G (I.base.free b o e n j)
 ·obtain⟨o',G⟩:=I.base.there b o e j;exact there b o' (D b o e j) G
 ·obtain⟨m1,G⟩:=I.base.tbls b ps e;obtain⟨m2,U⟩:=tbls b _ G;exact⟨m1++m2,by rw[U,Array.append_assoc]⟩
 ·obtain⟨m,hn,hl⟩:=I.loc;refine⟨m,ns m hn,λi x v G U e3=>?_⟩;obtain⟨u,r,l⟩:=hl i x v G U e3;refine⟨u,r,?_⟩;rcases l with l|⟨k,c,e,z⟩
  ·exact .inl l
  ·exact .inr ⟨k,c,e,cellK x c e _ z⟩
 ·obtain⟨v,z⟩:=I.cell x c e;exact⟨v,cellK x c e v z⟩
 ·obtain⟨m,⟨o,_,_,L,_⟩,_⟩:=I.loc;exact free _ o (λz=>(hch _ z).2.1 rfl) L I.free
 ·obtain⟨v,o,L,hd⟩:=I.cell x c e;exact free c o (λz=>(hch c z).2.2.1 x c e rfl) L (I.freeC x c e)
 ·obtain⟨e,n,ne,Z,d⟩:=I.pin p hp;have B:p.1∉ch:=λz=>(hch p.1 z).2.2.2 p hp rfl;exact⟨keep p.1 p.2 ne Z B e n,free p.1 p.2 B e n,ne,Z,d⟩
theorem Inv.un{t':Nat}(I:Inv X pins σ H s)(u:Un X.fs [] H H' s.heap h')(hok:HOk X.prog X.w H' h'):Inv X pins σ H' {s with heap:=h',toks:=t'}:=by
 obtain⟨m,⟨o,es,L,B,r⟩,_⟩:=id I.loc;obtain⟨sl,G⟩:=u.any B I.free (by simp)
 exact I.step (g':=s.gens) (d':=s.drawn) (ch:=[]) (λ_ z=>nomatch z) (λb o _ d _ e n=>u.keep b o e n d (by simp)) (λb o _ d _ e n=>u.slot b o e n d (by simp)) (λb o _ e n=>u.free b o e n (by simp)) (λb o _ e=>u.there b o e (by simp)) u.tups u.frzs u.tbls (λJ hm=>by
  obtain⟨o',i,j,ho',D⟩:=hm;rw[B] at ho';cases ho';exact⟨_,i,j,G,D⟩) hok I.bare
theorem Inv.call{g':Array GenState}{t':Nat}{d':Drawn}{ch:List Addr}(I:Inv X pins σ H s)(u:Un (frs X.stack) ch H H' s.heap h')(hok:HOk X.prog X.w H' h')(hg:jf g')
  (hch:∀b∈ch,(b∈X.ex\/X.s₀.heap.objs.size<=b)/\b≠X.env.locals/\(∀x c,X.env.cells.lookup x=some c->c≠b)/\∀p∈X.pn++pins,p.1≠b) :
  Inv X pins σ H' {s with heap:=h',gens:=g',drawn:=d',toks:=t'}:=by
 obtain⟨m,⟨o,es,O,D,r⟩,_⟩:=id I.loc;obtain⟨sl,i⟩:=u.any D I.free λz=>(hch _ z).2.1 rfl;exact I.step (ch:=ch) hch (λb o i J d e n=>u.keep b o e n (λz=>(aA.mp (I.stkSub b z)).elim i J) d) (λb o _ _ d e n=>u.any e n d) (λb o d e n=>u.free b o e n d) (λb o d e=>u.there b o e d) u.tups u.frzs u.tbls (λL hm=>by
  obtain⟨o',j,B,ho',G⟩:=hm;rw[D] at ho';cases ho';exact⟨_,j,B,i,G⟩) hok hg
theorem Inv.turned{t':Nat}{it:Addr}(I:Inv X pins σ H s)(k:∀b o,b≠it->s.heap.get? b=some o->h'.get? b=some o)(hn:H it=none)(hL:it≠X.env.locals)
  (h1:it∈X.ex\/X.s₀.heap.objs.size<=it) (h2:∀x c,X.env.cells.lookup x=some c->c≠it) (h3:∀p∈X.pn++pins,p.1≠it):Inv X pins σ H {s with heap:=h',toks:=t'}:=by
 have i:∀b u,H b=some u->b≠it:=λb u e z=>by rw[z,hn] at e;cases e
 refine I.step (g':=s.gens) (d':=s.drawn) (ch:=[it]) (λb B=>?_) (λb o _ _ d e _=>k b o (λz=>d (by simp[z])) e) (λb o _ _ d e _=>⟨o.slots,k b o (λz=>d (by simp[z])) e⟩) (λ_ _ _ _ n=>n)
  (λb o d e=>⟨o,k b o (λz=>d (by simp[z])) e⟩) (λ_ _ e=>e) (λ_ _ _ e=>e) (λb ps e=>⟨#[],by rw[e];simp⟩) (λm hm=>?_) (λb u e=>?_) I.bare
 ·have e:b=it:=by simpa using B
  subst e;exact⟨h1,hL,h2,h3⟩
 ·obtain⟨o,es,D,j,r⟩:=hm;exact⟨o,es,D,k _ o (cv hL) j,r⟩
 ·refine(I.hok b u e).stay (λc v d q=>k c v ?_ q) (λ_ q=>q) λ_ _ q=>q;rcases d with z|z
  ·rw[z];exact i b u e
  ·exact i c _ z
theorem Inv.tok(I:Inv X pins σ H s)(t:Nat):Inv X pins σ H {s with toks:=t}:=I.un (h':=s.heap) (t':=t) Un.refl I.hok
theorem Inv.kept{t':Nat}(I:Inv X pins σ H s)(k:∀b u,s.heap.get? b=some u->h'.get? b=some u):Inv X pins σ H {s with heap:=h',toks:=t'}:=I.un (Un.kept k) (I.hok.kept k)
theorem Inv.laid{a:Addr}{o:HO}{t':Nat}(I:Inv X pins σ H s)(k:∀b u,s.heap.get? b=some u->h'.get? b=some u)(hp:s.heap.objs.size<=a)(new:ObjOk X.prog X.w (upd H a o) h' a o) :
  Inv X pins σ (upd H a o) {s with heap:=h',toks:=t'}:=I.un (Un.laid k hp (I.hok.fresh hp)) (I.hok.laid k hp new)
theorem Inv.write{x e:Addr}{o:HO}{t':Nat}(I:Inv X pins σ H s)(mu:Mut (H x))(he:e=x\/H e=some (.own x))(k:∀b u,b≠e->s.heap.get? b=some u->h'.get? b=some u)(heo:∃u,h'.get? e=some u)
  (new:ObjOk X.prog X.w (upd H x o) h' x o):Inv X pins σ (upd H x o) {s with heap:=h',toks:=t'}:=I.un (Un.write mu he k heo) (I.hok.write mu he k heo new)
theorem Inv.weak{σ':List (Option V)}(I:Inv X pins σ H s)(hl:σ'.length=σ.length)(w:∀(i:Nat) v,σ'[i]?=some (some v)->σ[i]?=some (some v)):Inv X pins σ' H s :=
 ⟨I.ok,I.os,I.bare,I.base,let ⟨m,j,d⟩:=I.loc;⟨m,j,λi x v G D B=>d i x v G (w i v D) B⟩,I.cell,I.free,I.freeC,I.pin,I.hok,hl.trans I.len⟩
theorem Inv.pins_of{pins':List (Addr×Obj)}(I:Inv X pins σ H s)(h:∀p∈pins',s.heap.get? p.1=some p.2/\H p.1=none/\p.1≠X.env.locals/\p.1∉X.fs/\∀v,p.2.data≠.cell v):Inv X pins' σ H s :=
 ⟨I.ok,I.os,I.bare,I.base,I.loc,I.cell,I.free,I.freeC,λp d=>(aJ.mp d).elim (λz=>I.pin p (b7 _ z)) (h p),I.hok,I.len⟩
theorem nodup_ix{N:List Str}(hN:N.Nodup){i j:Nat}{x:Str}(a:N[i]?=some x)(b:N[j]?=some x):i=j:=by
 obtain⟨h1,B⟩:=ay.mp a;obtain⟨h2,d⟩:=ay.mp b;exact(List.getElem_inj hN).mp (B.trans d.symm)
theorem bXc{M:Model}{A:bi}{E:ad->aj->Prop}{i:Nat}{x:Str}{v:V}{u:ad}{Q:Unit->aj->Prop}(I:Inv X pins σ H s)(hN:X.N.Nodup)(hi:X.N[i]?=some x)(hx:Loc X.env.scope x)(r:RelV v u)
  (h:∀s',Inv X pins (σ.set i (some v)) H s'->(∃a,dI a s.heap s'.heap/\(a=X.env.locals\/X.env.cells.lookup x=some a))->Q () s') (hf:X.fn x=true\/X.env.scope.names.lookup x=some .local:=by first|exact .inl rfl|exact .inr rfl|assumption):aH M A (storeName X.env x u) Q E s:=by
 obtain⟨m,hn,hl⟩:=id I.loc;have Y:(X.env.scope.kind ==.class||(X.env.scope.kind ==.module&&X.env.locals !=X.env.globals))=false:=by rw[I.ok.kind];rfl
 have hiσ:i<σ.length:=by rw[I.len];exact(ay.mp hi).1
 have cne:=I.cne;have tracked:∀{a:Addr}{h':bj},(∃o,s.heap.get? a=some o/\H a=none)->dI a s.heap h'->HOk X.prog X.w H h':=λ{a h'} ha B b ob e=>by
  obtain⟨_,_,D⟩:=ha;refine(I.hok b ob e).stay (λc w' hc q=>(B.2 c ?_).trans q) (λ_ q=>q) λ_ _ q=>q;rintro rfl;rcases hc with rfl|hc
  ·rw[D] at e;cases e
  ·rw[D] at hc;cases hc
 rcases hx with hk|hk
 ·refine wpAny_storeName_local hk hn (λh' hn' B=>?_) Y;obtain⟨oL,_,_,hoL,_⟩:=id hn;refine h _ ⟨I.ok,I.os,I.bare,⟨λb o e n L hx=>?_,λb o e n L hx=>?_,I.base.free,λb o e hx=>?_,I.base.tups,I.base.frzs,I.base.tbls⟩,⟨_,hn',λj y v' e1 e2 e3=>?_⟩,λy c e=>?_,I.free,I.freeC,λp hp=>?_,tracked ⟨oL,hoL,I.free⟩ B,by simpa using I.len⟩ ⟨_,B,.inl rfl⟩
  ·exact(B.2 b (Nat.ne_of_lt (Nat.lt_of_lt_of_le (aB e) I.ok.above))).trans (I.base.keep b o e n L hx)
  ·obtain⟨sl,e1⟩:=I.base.slot b o e n L hx;exact⟨sl,(B.2 b (Nat.ne_of_lt (Nat.lt_of_lt_of_le (aB e) I.ok.above))).trans e1⟩
  ·obtain⟨o',e1⟩:=I.base.there b o e hx;exact⟨o',(B.2 b (Nat.ne_of_lt (Nat.lt_of_lt_of_le (aB e) I.ok.above))).trans e1⟩
  ·by_cases G:j=i
   ·subst G;rw[hi] at e1;cases e1;rw[List.getElem?_set_self hiσ] at e2;cases e2;exact⟨u,r,.inl ⟨hk,by simp⟩⟩
   ·rw[fG (cv G)] at e2;obtain⟨u',r',q⟩:=hl j y v' e1 e2 e3;refine⟨u',r',?_⟩;rcases q with⟨k,e⟩|⟨k,c,e,z⟩
    ·refine .inl ⟨k,?_⟩
     have:y≠x:=λe=>G (nodup_ix hN e1 (e▸hi))
     simp[this,e]
    ·exact .inr ⟨k,c,e,z.sameBut B (cne y c e)⟩
  ·obtain⟨w',z⟩:=I.cell y c e;exact⟨w',z.sameBut B (cne y c e)⟩
  ·obtain⟨e,n,ne,nf,d⟩:=I.pin p hp;exact⟨(B.2 p.1 ne).trans e,n,ne,nf,d⟩
 ·have J:X.fn x=true:=by
   rcases hf with z|z
   ·exact z
   ·rw[z] at hk;cases hk
  obtain⟨c,hc⟩:=I.ok.has x (.inl hk);obtain⟨w',z⟩:=I.cell x c hc;refine wpAny_storeName_cell I.ok.kind hk hc z (λh' hc' B=>?_);obtain⟨oc,U,O⟩:=id z;refine h {s with heap:=h'} ⟨I.ok,I.os,I.bare,⟨λb o e n L hx=>?_,λb o e n L hx=>?_,I.base.free,λb o e hx=>?_,I.base.tups,I.base.frzs,I.base.tbls⟩,⟨m,hn.sameBut B (cv (cne x c hc)),λj y v' e1 e2 e3=>?_⟩,λy c' e=>?_,I.free,I.freeC,λp hp=>?_,tracked ⟨oc,U,I.freeC x c hc⟩ B,by simpa using I.len⟩ ⟨c,B,.inr hc⟩
  ·exact(B.2 b (Nat.ne_of_lt (Nat.lt_of_lt_of_le (aB e) (I.ok.cab x c J hc)))).trans (I.base.keep b o e n L hx)
  ·obtain⟨sl,e1⟩:=I.base.slot b o e n L hx;exact⟨sl,(B.2 b (Nat.ne_of_lt (Nat.lt_of_lt_of_le (aB e) (I.ok.cab x c J hc)))).trans e1⟩
  ·obtain⟨o',e1⟩:=I.base.there b o e hx;exact⟨o',(B.2 b (Nat.ne_of_lt (Nat.lt_of_lt_of_le (aB e) (I.ok.cab x c J hc)))).trans e1⟩
  ·by_cases G:j=i
   ·subst G;rw[hi] at e1;cases e1;rw[List.getElem?_set_self hiσ] at e2;cases e2;exact⟨u,r,.inr ⟨.inl hk,c,hc,hc'⟩⟩
   ·rw[fG (cv G)] at e2;obtain⟨u',r',q⟩:=hl j y v' e1 e2 e3;refine⟨u',r',?_⟩;rcases q with q|⟨k,c',e,z'⟩
    ·exact .inl q
    ·refine .inr ⟨k,c',e,z'.sameBut B ?_⟩;rintro rfl;exact G (nodup_ix hN e1 (I.ok.inj _ _ _ e hc▸hi))
  ·by_cases Z:c'=c
   ·subst Z;exact⟨_,hc'⟩
   ·obtain⟨w2,z2⟩:=I.cell y c' e;exact⟨w2,z2.sameBut B Z⟩
  ·obtain⟨e,n,ne,nf,d⟩:=I.pin p hp;refine⟨(B.2 p.1 ?_).trans e,n,ne,nf,d⟩;intro q;rw[q,U] at e;have q':oc=p.2:=aN e;exact d w' (by rw[<- q'];exact O)
theorem store_ok{M:Model}{A:bi}{E:ad->aj->Prop}{i:Nat}{x:Str}{v:V}{u:ad}{Q:Unit->aj->Prop}(I:Inv X pins σ H s)(hN:X.N.Nodup)(hi:X.N[i]?=some x)(hx:Loc X.env.scope x)(r:RelV v u)
  (h:∀s',Inv X pins (σ.set i (some v)) H s'->Q () s') (hf:X.fn x=true\/X.env.scope.names.lookup x=some .local:=by first|exact .inl rfl|exact .inr rfl|assumption):aH M A (storeName X.env x u) Q E s :=
 bXc I hN hi hx r (λs' d _=>h s' d) hf
theorem Inv.call'{s':aj}{ch:List Addr}(I:Inv X pins σ H s)(ho:s'.os=s.os)(u:Un (frs X.stack) ch H H' s.heap s'.heap)(hok:HOk X.prog X.w H' s'.heap)(hg:jf s'.gens)
  (hch:∀b∈ch,(b∈X.ex\/X.s₀.heap.objs.size<=b)/\b≠X.env.locals/\(∀x c,X.env.cells.lookup x=some c->c≠b)/\∀p∈X.pn++pins,p.1≠b):Inv X pins σ H' s':=by
 obtain⟨h',g',d',t',o'⟩:=s';have e:o'=s.os:=ho;subst e;exact I.call (g':=g') (t':=t') (d':=d') u hok hg hch
end
abbrev XK:=ad->Option Addr->Hp->Prop
abbrev St:=List (Option V)
abbrev VK:=V->Hp->Prop
abbrev TE:=St->Hp->VK->Prop
abbrev TT:=St->Hp->(Bool->Hp->Prop)->Prop
abbrev TA:=St->Hp->(List V->Hp->Prop)->Prop
structure Ends where
 nx:St->Hp->Prop
 rt:VK
 bk:St->Hp->Prop:=λ_ _=>False
 ct:St->Hp->Prop:=λ_ _=>False
abbrev TS:=Ends->St->Hp->Prop
def EP(X:Cx)(pins:List (Addr×Obj))(σ:St)(Q:VK)(u:ad)(s':aj):Prop:=∃v H',Inv X pins σ H' s'/\RelV v u/\Q v H'
def TP(X:Cx)(pins:List (Addr×Obj))(σ:St)(Q:Bool->Hp->Prop)(b:Bool)(s':aj):Prop:=∃H',Inv X pins σ H' s'/\Q b H'
def AP(X:Cx)(pins:List (Addr×Obj))(σ:St)(Q:List V->Hp->Prop)(us:List ad)(s':aj):Prop:=∃vs H',Inv X pins σ H' s'/\Vals vs us/\Q vs H'
def SP(X:Cx)(pins:List (Addr×Obj))(D:Ends)(f:Flow)(s':aj):Prop :=
 match f with
 |.next=>∃σ' H',Inv X pins σ' H' s'/\D.nx σ' H'
 |.brk=>∃σ' H',Inv X pins σ' H' s'/\D.bk σ' H'
 |.cont=>∃σ' H',Inv X pins σ' H' s'/\D.ct σ' H'
 |.ret u=>∃v σ' H',Inv X pins σ' H' s'/\RelV v u/\D.rt v H'
def PE(X:Cx)(e:Expr)(t:TE):Prop :=
 ∀(pins:List (Addr×Obj)) (s:aj) (σ:St) (H:Hp) (Q:VK),Inv X pins σ H s->t σ H Q->aH (aF X.prog X.w) X.A (eval e X.env) (EP X pins σ Q) X.xe s
def PT(X:Cx)(e:Expr)(t:TT):Prop :=
 ∀(pins:List (Addr×Obj)) (s:aj) (σ:St) (H:Hp) (Q:Bool->Hp->Prop),Inv X pins σ H s->t σ H Q->aH (aF X.prog X.w) X.A (isTrue e X.env (eval e X.env)) (TP X pins σ Q) X.xe s
def PW(X:Cx)(e:Expr)(t:TT):Prop :=
 ∀(whole:Sem ad) (pins:List (Addr×Obj)) (s:aj) (σ:St) (H:Hp) (Q:Bool->Hp->Prop),Inv X pins σ H s->t σ H Q->aH (aF X.prog X.w) X.A (isTrue e X.env whole) (TP X pins σ Q) X.xe s
theorem PW.pt{X:Cx}{e:Expr}{t:TT}(h:PW X e t):PT X e t:=h _
def PA(X:Cx)(es:List Expr)(t:TA):Prop :=
 ∀(pos:Pos) (pins:List (Addr×Obj)) (s:aj) (σ:St) (H:Hp) (Q:List V->Hp->Prop),Inv X pins σ H s->t σ H Q->aH (aF X.prog X.w) X.A (spliced (cD pos (au es X.env))) (AP X pins σ Q) X.xe s
def PS(X:Cx)(st:Stmt)(t:TS):Prop :=
 ∀(pins:List (Addr×Obj)) (s:aj) (σ:St) (H:Hp) (D:Ends),Inv X pins σ H s->t D σ H->aH (aF X.prog X.w) X.A (exec st X.env) (SP X pins D) X.xe s
def PSs(X:Cx)(st:List Stmt)(t:TS):Prop :=
 ∀(pins:List (Addr×Obj)) (s:aj) (σ:St) (H:Hp) (D:Ends),Inv X pins σ H s->t D σ H->aH (aF X.prog X.w) X.A (execs st X.env) (SP X pins D) X.xe s
theorem thn{α:Type}{t:Sem α}{Q Q':α->aj->Prop}{M:Model}{A:bi}{E:ad->aj->Prop}{s:aj}(h:aH M A t Q E s)(hQ:∀a s,Q a s->Q' a s):aH M A t Q' E s:=eA h hQ λ_ _ x=>x
section
variable{X:Cx}
def tVar(i:Nat):TE:=fun σ H Q=>∃v,σ[i]?=some (some v)/\Q v H
def tC(v:V):TE:=λ_ H Q=>Q v H
theorem eJs{i:Nat}{x:Str}{pos:Pos}(hN:X.N[i]?=some x)(hv:Vis X.env.scope x)(hd:(x==("__debug__":Str))=false:=by decide)(hcd:(x==("__classdict__":Str))=false:=by decide):PE X (.Name x pos) (tVar i):=by
 intro pins s σ H Q I h;obtain⟨v,e,h⟩:=h;obtain⟨m,D,hl⟩:=I.loc;obtain⟨u,r,l⟩:=hl i x v hN e hv;have fin:EP X pins σ Q u s:=⟨v,H,I,r,h⟩;rcases l with⟨j,hm⟩|⟨j,c,B,d⟩
 ·exact wpAny_Name (wpAny_loadName_local I.ok.kind j D hm fin) hd
 ·rcases j with j|j
  ·exact wpAny_Name (wpAny_loadName_cell I.ok.kind j B d fin) hd
  ·exact wpAny_Name (wpAny_loadName_free I.ok.kind j B d fin hcd) hd
theorem eJt{i j pos}:PE X (.Constant (.int i) j pos) (tC (.int i)):=λ_ _ _ H _ I h=>wpAny_Constant_int ⟨.int i,H,I.tok _,⟨_,rfl⟩,h⟩
theorem fJa{b j pos}:PE X (.Constant (.bool b) j pos) (tC (.bl b)):=λ_ _ _ H _ I h=>Constant_bool ⟨.bl b,H,I,rfl,h⟩
theorem eJu{j pos}:PE X (.Constant .none j pos) (tC .non):=λ_ _ _ H _ I h=>Constant_none ⟨.non,H,I,rfl,h⟩
theorem eJv{x j pos}:PE X (.Constant (.str x) j pos) (tC (.str x)):=λ_ _ _ H _ I h=>Calls.Constant_str ⟨.str x,H,I.tok _,⟨_,rfl⟩,h⟩
def Gl(X:Cx)(x:Str):Prop:=X.env.kindOf x=some .globalImplicit
theorem ld_glob{E:ad->aj->Prop}{pins:List (Addr×Obj)}{s:aj}{σ:St}{H:Hp}{x:Str}{u:ad}{pos:Pos}{Q:ad->aj->Prop}(I:Inv X pins σ H s)(hg:Gl X x)(hm:X.mg x=some u)(h:Q u s)
  (hd:(x==("__debug__":Str))=false:=by decide):aH (aF X.prog X.w) X.A (eval (.Name x pos) X.env) Q E s :=
 iO I.ok.kind hg (Calls.loadGlobal_global (by rw[I.ok.glob];exact I.mod.glob.keeps I.bk) hm h) hd
theorem ld_blt{E:ad->aj->Prop}{pins:List (Addr×Obj)}{s:aj}{σ:St}{H:Hp}{x:Str}{u:ad}{pos:Pos}{Q:ad->aj->Prop}(I:Inv X pins σ H s)(hg:Gl X x)(hm:X.mg x=none)(hv:bH x=some u)(h:Q u s)
  (hn:x ≠ "__name__":=by decide) (hd:(x==("__debug__":Str))=false:=by decide):aH (aF X.prog X.w) X.A (eval (.Name x pos) X.env) Q E s:=by
 obtain⟨d,h1,h2⟩:=I.mod.blt;exact iO I.ok.kind hg (Calls.loadGlobal_builtin (by rw[I.ok.glob];exact I.mod.glob.keeps I.bk) hm (by rw[I.ok.blt];exact h1.keeps I.bk) ((h2 x hn).trans hv) h) hd
theorem eQ4{x:Str}{v:V}{u:ad}{pos:Pos}(hg:Gl X x)(hm:X.mg x=none)(hv:bH x=some u)(r:RelV v u)(hn:x ≠ "__name__":=by decide)(hd:(x==("__debug__":Str))=false:=by decide):PE X (.Name x pos) (tC v) :=
 λ_ _ _ H _ I h=>ld_blt I hg hm hv ⟨v,H,I,r,h⟩ hn hd
variable{a b:Expr}{ta tb:TE}{pos:Pos}
variable{tA tB':TT}{rest:List Expr}
def tAnd(t u:TT):TT:=fun σ H Q=>t σ H λc H1=>if c=true then u σ H1 Q else Q false H1
def tOr(t u:TT):TT:=fun σ H Q=>t σ H λc H1=>if c=true then Q true H1 else u σ H1 Q
def tNot(t:TT):TT:=fun σ H Q=>t σ H λc H1=>Q (!c) H1
theorem eQ5(ha:PT X a tA):PW X (.BoolOp .And [a] pos) tA:=by
 intro d pins s σ H Q I h;refine isTrue_and (thn (ha pins s σ H Q I h) λc s1 e=>?_);cases c with
 |true=>exact isTrue_and_nil e
 |false=>exact e
theorem eJw(ha:PT X a tA):PW X (.BoolOp .Or [a] pos) tA:=by
 intro d pins s σ H Q I h;refine isTrue_or (thn (ha pins s σ H Q I h) λc s1 e=>?_);cases c with
 |false=>exact isTrue_or_nil e
 |true=>exact e
theorem eJx(ha:PT X a tA)(hb:PW X (.BoolOp .And (b::rest) pos) tB'):PW X (.BoolOp .And (a::b::rest) pos) (tAnd tA tB'):=by
 intro j pins s σ H Q I h;refine isTrue_and (thn (ha pins s σ H _ I h) λc s1 ⟨H1,i,d⟩=>?_);cases c with
 |true=>exact hb j pins s1 σ H1 Q i d
 |false=>exact⟨H1,i,d⟩
theorem fJb(ha:PT X a tA)(hb:PW X (.BoolOp .Or (b::rest) pos) tB'):PW X (.BoolOp .Or (a::b::rest) pos) (tOr tA tB'):=by
 intro j pins s σ H Q I h;refine isTrue_or (thn (ha pins s σ H _ I h) λc s1 ⟨H1,i,d⟩=>?_);cases c with
 |true=>exact⟨H1,i,d⟩
 |false=>exact hb j pins s1 σ H1 Q i d
theorem eJy(ha:PT X a tA):PT X (.UnaryOp .Not a pos) (tNot tA):=by
 intro pins s σ H Q I h;exact isTrue_not (ha pins s σ H (λc H1=>Q (!c) H1) I h)
def fJc(ta tb:TE):TE:=fun σ H Q=>ta σ H λx H1=>∃c,x=.bl c/\if c=true then tb σ H1 Q else Q (.bl false) H1
def fJd(ta:TE):TE:=fun σ H Q=>ta σ H λx H1=>∃c,x=.bl c/\Q (.bl (!c)) H1
theorem eJz{op}{t:TE}(h:PE X a t):PE X (.BoolOp op [a] pos) t:=λpins s σ H Q I hw=>BoolOp_one (h pins s σ H Q I hw)
theorem fQ0(ha:PE X a ta)(hb:PE X (.BoolOp .And (b::rest) pos) tb):PE X (.BoolOp .And (a::b::rest) pos) (fJc ta tb):=by
 intro pins s σ H Q I h;refine BoolOp_and (thn (ha pins s σ H _ I h) λv s1 ⟨x,H1,i,r1,d⟩=>?_);obtain⟨c,rfl,d⟩:=d;cases r1;refine cS ?_;cases c with
 |true=>exact hb pins s1 σ H1 Q i d
 |false=>exact⟨.bl false,H1,i,rfl,d⟩
theorem fQ1(ha:PE X a ta):PE X (.UnaryOp .Not a pos) (fJd ta):=by
 intro pins s σ H Q I h;refine UnaryOp_ (thn (ha pins s σ H _ I h) λv s1 ⟨x,H1,i,r1,d⟩=>?_);obtain⟨c,rfl,d⟩:=d;cases r1;exact not_of (cS ⟨.bl (!c),H1,i,rfl,d⟩)
end
def SqL(K:ax)(H:Hp)(a:Addr)(xs:List V):Prop :=
 Rd H a (.lst xs) \/
  ∃(o:Obj) (its:Array ad) (n:Nat),K.lookup a=some o/\o.cls=.type "list"/\o.dict=none/\o.data=.seq its n/\its.size<=sizeLine/\Vals xs its.toList
def SqT(K:ax)(H:Hp)(a:Addr)(xs:List V):Prop :=
 Rd H a (.tup xs) \/
  ∃(o:Obj) (its:Array ad) (n:Nat),K.lookup a=some o/\o.cls=.type "tuple"/\o.dict=none/\o.data=.seq its n/\its.size<=sizeLine/\Vals xs its.toList
def absV:ad->Option V
 |.none=>some .non
 |.bool b=>some (.bl b)
 |.int i _=>some (.int i)
 |.str x _=>some (.str x)
 |.bytes b _=>some (.byt b)
 |.float b _=>some (.flt b)
 |.ref a=>some (.ref a)
 |.type n=>some (.ty n)
 |_=>none
theorem RelV.abs{x:V}{u:ad}(r:RelV x u):absV u=some x:=by
 cases x with
 |non=>cases r;rfl
 |bl _=>cases r;rfl
 |int _=>obtain⟨t,rfl⟩:=r;rfl
 |str _=>obtain⟨t,rfl⟩:=r;rfl
 |byt _=>obtain⟨t,rfl⟩:=r;rfl
 |flt _=>obtain⟨t,rfl⟩:=r;rfl
 |ref _=>cases r;rfl
 |ty _=>cases r;rfl
theorem RelV.inj{x y:V}{u:ad}(r:RelV x u)(q:RelV y u):x=y:=aN (r.abs.symm.trans q.abs)
theorem Vals.inj:∀{xs ys:List V}{us:List ad},Vals xs us->Vals ys us->xs=ys
 |_,_,_,.nil,.nil=>rfl
 |_,_,_,.cons r t,.cons i d=>by rw[r.inj i,Vals.inj t d]
section
variable{X:Cx}{pins:List (Addr×Obj)}{σ:St}{H:Hp}{s:aj}{a:Addr}{xs ys:List V}
theorem SqL.of{K:ax}(h:H a=some (.lst xs)):SqL K H a xs:=.inl (.inl h)
theorem Inv.list(I:Inv X pins σ H s)(h:SqL X.K H a xs):∃its:List ad,Vals xs its/\PlainL s.heap a its.toArray/\xs.length<=sizeLine:=by
 rcases h with h|⟨o,its,n,i,j,hd,d,B,r⟩
 ·obtain⟨z,its,n,r,e⟩:=h.ok I.hok;exact⟨its,r,⟨_,n,e,rfl,rfl,rfl⟩,z⟩
 ·refine⟨its.toList,r,⟨o,n,I.kIn a o i,j,hd,by simpa using d⟩,?_⟩
  have e:=r.length;simp only[be] at e;omega
theorem Inv.tuple(I:Inv X pins σ H s)(h:SqT X.K H a xs):∃its:List ad,Vals xs its/\IsTup s.heap a its.toArray/\xs.length<=sizeLine:=by
 rcases h with h|⟨o,its,n,i,j,_,d,B,r⟩
 ·obtain⟨z,its,r,p,_⟩:=h.ok I.hok;exact⟨its,r,p,z⟩
 ·refine⟨its.toList,r,⟨o,I.kIn a o i,j,n,by simpa using d⟩,?_⟩
  have e:=r.length;simp only[be] at e;omega
theorem Inv.list_inj(I:Inv X pins σ H s)(h:SqL X.K H a xs)(h':SqL X.K H a ys):xs=ys:=by
 obtain⟨i,r,⟨o,n,e,_,_,d⟩,_⟩:=I.list h;obtain⟨its',B,⟨o',G,e',_,_,j⟩,_⟩:=I.list h';rw[e] at e';cases e';rw[d] at j;injection j with D _
 have:i=its':=by simpa using congrArg Array.toList D
 subst this;exact r.inj B
theorem Inv.tuple_inj(I:Inv X pins σ H s)(h:SqT X.K H a xs)(h':SqT X.K H a ys):xs=ys:=by
 obtain⟨i,r,⟨o,e,_,n,d⟩,_⟩:=I.tuple h;obtain⟨its',B,⟨o',e',_,G,j⟩,_⟩:=I.tuple h';rw[e] at e';cases e';rw[d] at j;injection j with D _
 have:i=its':=by simpa using congrArg Array.toList D
 subst this;exact r.inj B
end
abbrev Cx.wish(X:Cx)(E:ad->aj->Prop):Cx:={X with xe:=E}
abbrev Cx.nox(X:Cx):Cx:=X.wish λ_ _=>False
theorem Cx.Ok.wish{X:Cx}(ok:X.Ok)(E:ad->aj->Prop):(X.wish E).Ok :=
 ⟨ok.mod,ok.kind,ok.glob,ok.blt,ok.above,ok.inj,ok.has,ok.cab,ok.hd,ok.frames,ok.gd,ok.stk,ok.exf,ok.bs,ok.bsz,ok.noex,ok.exfs,ok.funs,ok.frf⟩
theorem Cx.Ok.unwish{X:Cx}{E:ad->aj->Prop}(ok:(X.wish E).Ok):X.Ok :=
 ⟨ok.mod,ok.kind,ok.glob,ok.blt,ok.above,ok.inj,ok.has,ok.cab,ok.hd,ok.frames,ok.gd,ok.stk,ok.exf,ok.bs,ok.bsz,ok.noex,ok.exfs,ok.funs,ok.frf⟩
section
variable{X:Cx}{pins:List (Addr×Obj)}{σ:St}{H:Hp}{s:aj}{E:ad->aj->Prop}
theorem Inv.wish(I:Inv X pins σ H s)(E:ad->aj->Prop):Inv (X.wish E) pins σ H s:=⟨I.ok.wish E,I.os,I.bare,I.base,I.loc,I.cell,I.free,I.freeC,I.pin,I.hok,I.len⟩
theorem Inv.unwish(I:Inv (X.wish E) pins σ H s):Inv X pins σ H s:=⟨I.ok.unwish,I.os,I.bare,I.base,I.loc,I.cell,I.free,I.freeC,I.pin,I.hok,I.len⟩
theorem SP.unwish{D:Ends}{f:Flow}{s':aj}(h:SP (X.wish E) pins D f s'):SP X pins D f s':=by
 cases f with
 |next=>obtain⟨σ',H',I,q⟩:=h;exact⟨σ',H',I.unwish,q⟩
 |brk=>obtain⟨σ',H',I,q⟩:=h;exact⟨σ',H',I.unwish,q⟩
 |cont=>obtain⟨σ',H',I,q⟩:=h;exact⟨σ',H',I.unwish,q⟩
 |ret u=>obtain⟨v,σ',H',I,r,q⟩:=h;exact⟨v,σ',H',I.unwish,r,q⟩
theorem PSs.nox{st:List Stmt}{t:TS}(h:PSs X.nox st t):PSs X st t:=λpins s σ H D I hw =>
 eA (h pins s σ H D (I.wish _) hw) (λ_ _ q=>q.unwish) λ_ _ z=>eB z
end
section
variable{X:Cx}{st:Stmt}{rest:List Stmt}{t u:TS}{e:Expr}{te:TE}{pos:Pos}
def fJe:TS:=λD σ H=>D.nx σ H
def tSeq(t u:TS):TS:=λD σ H=>t {D with nx:=u D} σ H
theorem eQ6:PSs X [] fJe:=λ_ _ σ H _ I h=>wpAny_execs_nil ⟨σ,H,I,h⟩
theorem cQc(h1:PS X st t)(h2:PSs X rest u):PSs X (st::rest) (tSeq t u):=by
 intro pins s σ H D I h;refine wpAny_execs_cons (thn (h1 pins s σ H {D with nx:=u D} I h) λf s1 q=>?_)
 cases f with
 |next =>
  obtain⟨σ',H',d,q⟩:=q;exact h2 pins s1 σ' H' D d q
 |ret v=>exact q
 |brk=>exact q
 |cont=>exact q
theorem eQ7(h1:PS X st t):PSs X [st] t:=by
 intro pins s σ H D I h;refine wpAny_execs_cons (thn (h1 pins s σ H D I h) λf s1 q=>?_);cases f with
 |next=>exact wpAny_execs_nil q
 |ret v=>exact q
 |brk=>exact q
 |cont=>exact q
theorem Inv.quiet{pins:List (Addr×Obj)}{σ:St}{H:Hp}{s:aj}(I:Inv X pins σ H s):interactive X.env=false:=by simp[interactive,I.ok.kind]
def fJf(te:TE):TS:=λD σ H=>te σ H λ_ H1=>D.nx σ H1
theorem eQ8(he:PE X e te)(hs:g7 e none pos.line X.env=pure false:=by rfl):PS X (.Expr e pos) (fJf te):=by
 intro pins s σ H D I h;exact wpAny_Expr_any (thn (he pins s σ H _ I h) λv s1 ⟨x,H1,i,j,d⟩=>⟨σ,H1,i,d⟩) I.quiet hs
def tRet(te:TE):TS:=λD σ H=>te σ H D.rt
theorem fQ2(he:PE X e te):PS X (.Return (some e) pos) (tRet te):=by
 intro pins s σ H D I h;exact wpAny_Return_some (thn (he pins s σ H _ I h) λv s1 ⟨x,H1,j,d,i⟩=>⟨x,σ,H1,j,d,i⟩)
def tIfS(c:TT)(t u:TS):TS:=λD σ H=>c σ H λb H1=>if b=true then t D σ H1 else u D σ H1
theorem fJg{c:Expr}{a b:List Stmt}{tc:TT}(hc:PT X c tc)(ha:PSs X a t)(hb:PSs X b u):PS X (.If c a b pos) (tIfS tc t u):=by
 intro pins s σ H D I h;refine wpAny_If (thn (hc pins s σ H _ I h) λd s1 ⟨H1,j,i⟩=>?_);cases d with
 |true=>exact ha pins s1 σ H1 D j i
 |false=>exact hb pins s1 σ H1 D j i
end
abbrev TG:=V->St->Hp->(St->Hp->Prop)->Prop
abbrev TGs:=List V->St->Hp->(St->Hp->Prop)->Prop
def PG(X:Cx)(target:Expr)(t:TG):Prop :=
 ∀(pins:List (Addr×Obj)) (s:aj) (σ:St) (H:Hp) (v:V) (u:ad) (Q:St->Hp->Prop),Inv X pins σ H s->RelV v u->t v σ H Q ->
  aH (aF X.prog X.w) X.A (jq target X.env u) (λ_ s'=>∃σ' H',Inv X pins σ' H' s'/\Q σ' H') X.xe s
def PGs(X:Cx)(ts:List Expr)(t:TGs):Prop :=
 ∀(pins:List (Addr×Obj)) (s:aj) (σ:St) (H:Hp) (vs:List V) (us:List ad) (Q:St->Hp->Prop),Inv X pins σ H s->Vals vs us->t vs σ H Q ->
  aH (aF X.prog X.w) X.A (assignInOrder ((eV ts X.env).map (·.2)) us) (λ_ s'=>∃σ' H',Inv X pins σ' H' s'/\Q σ' H') X.xe s
abbrev TSet:=V->V->V->Hp->(Hp->Prop)->Prop
def PSet(X:Cx)(t:TSet):Prop :=
 ∀(pins:List (Addr×Obj)) (s:aj) (σ:St) (H:Hp) (o i v:V) (ov iv u:ad) (Q:Hp->Prop),Inv X pins σ H s->RelV o ov->RelV i iv->RelV v u->t o i v H Q ->
  aH (aF X.prog X.w) X.A (setItem ov iv u) (λ_ s'=>∃H',Inv X pins σ H' s'/\Q H') X.xe s
section
variable{X:Cx}{pos:Pos}
def bJc(i:Nat):TG:=λv σ H Q=>Q (σ.set i (some v)) H
theorem aQb{i:Nat}{x:Str}(hN:X.N.Nodup)(hi:X.N[i]?=some x)(hx:Loc X.env.scope x)(hf:X.fn x=true\/X.env.scope.names.lookup x=some .local:=by first|exact .inl rfl|exact .inr rfl|assumption):PG X (.Name x pos) (bJc i):=by
 intro pins s σ H v u Q I r h;exact wpAny_assign_Name (store_ok I hN hi hx r (λs' d=>⟨_,H,d,h⟩) hf)
def gNil:TGs:=λvs σ H Q=>vs=[]/\Q σ H
def eQ9(t:TG)(u:TGs):TGs:=λvs σ H Q=>∃v r,vs=v::r/\t v σ H fun σ' H'=>u r σ' H' Q
theorem aJb:PGs X [] gNil:=by
 intro pins s σ H vs us Q I r h;obtain⟨e,h⟩:=h;subst e;cases r;exact assignInOrder_nil ⟨σ,H,I,h⟩
theorem aZ5{e:Expr}{es:List Expr}{t:TG}{u:TGs}(h1:PG X e t)(h2:PGs X es u)
  (hs:(eV (e::es) X.env).map (·.2)=jq e X.env::(eV es X.env).map (·.2):=by rfl):PGs X (e::es) (eQ9 t u):=by
 intro pins s σ H vs us Q I r h;obtain⟨v,D,j,h⟩:=h;subst j;cases r with
 |cons r d =>
  rw[hs];refine assignInOrder_cons (thn (h1 pins s σ H _ _ _ I r h) λ_ s1 ⟨σ1,H1,B,i⟩=>?_);exact h2 pins s1 σ1 H1 _ _ Q B d i
def gTup(K:ax)(n:Nat)(t:TGs):TG:=λv σ H Q=>∃a xs,v=.ref a/\SqT K H a xs/\xs.length=n/\t xs σ H Q
theorem bZ0{es:List Expr}{k:Nat}{t:TGs}{n:Nat}(hc:X.calm=true)(h:PGs X es t)
  (hn:(eV es X.env).length=n:=by rfl) (hst:(eV es X.env).findIdx? (·.1)=none:=by rfl):PG X (.Tuple es k pos) (gTup X.K n t):=by
 intro pins s σ H v u Q I r hw;obtain⟨a,xs,G,D,hl,hw⟩:=hw;subst G;cases r;obtain⟨i,d,B,L⟩:=I.tuple D;refine assign_Tuple_tuple (I.ok.hd hc) B (by simp[hn,<- hl,d.length]) hst λh' j=>?_
 have J:Inv X pins σ H {s with heap:=h'}:=I.kept (t':=s.toks) λb o e=>j b o (Nat.ne_of_lt (aB e)) e
 exact h pins _ σ H xs _ Q J (by simpa using d) hw
def gSub(to ti:TE)(t:TSet):TG:=λv σ H Q=>to σ H λo H1=>ti σ H1 λi H2=>t o i v H2 λH3=>Q σ H3
theorem fQ3{o i:Expr}{to ti:TE}{t:TSet}(ho:PE X o to)(hi:PE X i ti)(hs:PSet X t)
  (ha:∀ v,jq (.Subscript o i pos) X.env v=(do
   let ov <- fQ [v] (eval o X.env)
   let iv <- fQ [v,ov] (eval i X.env)
   fR pos
   fQ [v,ov,iv] (setItem ov iv v)
   release [v,ov,iv] []):=by intro _;rfl):PG X (.Subscript o i pos) (gSub to ti t):=by
 intro pins s σ H v u Q I r h;rw[ha];refine aa (bG (thn (ho pins s σ H _ I h) λov s1 ⟨x,H1,O,j,G⟩=>?_));refine aa (bG (thn (hi pins s1 σ H1 _ O G) λiv s2 ⟨y,H2,L,d,D⟩=>?_));refine aa (fB (aa (bG (thn (hs pins s2 σ H2 x y v ov iv u _ L j d r D) λ_ s3 ⟨U,J,B⟩=>?_))));exact wpAny_release ⟨σ,U,J,B⟩
def tAsg(te:TE)(g:TG):TS:=λD σ H=>te σ H λx H1=>g x σ H1 D.nx
theorem fQ4{tg e:Expr}{te:TE}{g:TG}(he:PE X e te)(hg:PG X tg g)(hs:swapsWithSole [tg] e pos.line X.env=pure false:=by rfl)(hw:swappedStores [tg] e X.env=pure none:=by rfl)
  (h1:(eV [tg] X.env).map (·.2)=[jq tg X.env]:=by rfl):PS X (.Assign [tg] e pos) (tAsg te g):=by
 intro pins s σ H D I h;refine wpAny_Assign_stores (thn (he pins s σ H _ I h) λv s1 ⟨x,H1,j,d,i⟩=>?_) hs hw;rw[h1];exact thn (hg pins s1 σ H1 x v _ j d i) λ_ s2 q=>q
theorem fQ5{i:Nat}{x:Str}{e:Expr}{te:TE}{pos':Pos}(hN:X.N.Nodup)(hi:X.N[i]?=some x)(hx:Loc X.env.scope x)(he:PE X e te)(hs:g7 e (some (.Name x pos')) pos.line X.env=pure false:=by rfl)(hf:X.fn x=true\/X.env.scope.names.lookup x=some .local:=by first|exact .inl rfl|exact .inr rfl|assumption) :
  PS X (.Assign [.Name x pos'] e pos) (tAsg te (bJc i)):=by
 intro pins s σ H D I h;refine wpAny_Assign_Name (thn (he pins s σ H _ I h) λv s1 ⟨y,H1,G,d,j⟩=>?_) hs;exact store_ok G hN hi hx d (λs2 B=>⟨_,H1,B,j⟩) hf
end
structure It where
 go:Nat->Hp->Prop
 yld:Nat->Hp->V->Hp->Prop
 stop:Nat->Hp->Prop
def FpOk(X:Cx)(pins:List (Addr×Obj))(H:Hp)(b:Addr):Prop :=
 H b=none/\b≠X.env.locals/\b∉X.fs/\(b∈X.ex\/X.s₀.heap.objs.size<=b)/\(∀x c,X.env.cells.lookup x=some c->c≠b)/\∀p∈X.pn++pins,p.1≠b
theorem Inv.fpOk{X:Cx}{pins:List (Addr×Obj)}{σ:St}{H H':Hp}{s:aj}{b:Addr}(I:Inv X pins σ H s)(hb:s.heap.objs.size<=b)(hn:H' b=none):FpOk X pins H' b:=by
 refine⟨hn,Nat.ne_of_gt (Nat.lt_of_lt_of_le I.lt hb),I.nofs hb,.inr (Nat.le_trans I.sz hb),λx c e z=>?_,λp d z=>?_⟩
 ·obtain⟨v,q⟩:=I.cell x c e;exact absurd (Nat.lt_of_lt_of_le q.lt (by rw[z];exact hb)) (Nat.lt_irrefl _)
 ·exact absurd (Nat.lt_of_lt_of_le (aB (I.pin p d).1) (by rw[z];exact hb)) (Nat.lt_irrefl _)
structure Turn(P:aD)(w:aR)(K:ax)(tg:Expr)(J:It)(fp:List Addr)(it:Addr)(tn:Nat->bj->Prop):Prop where
 mem:it∈fp
 obj:∀i h,tn i h->∀b∈fp,∃o,h.get? b=some o/\∀v,o.data≠.cell v
 keep:∀i h h',tn i h->(∀b∈fp,∀o,h.get? b=some o->h'.get? b=some o)->tn i h'
 item:∀(X:Cx),X.prog=P->X.w=w->X.K=K->X.calm=true->∀(i:Nat) (pins:List (Addr×Obj)) (s:aj) (σ:St) (H:Hp) (E:ad->aj->Prop),Inv X pins σ H s->(∀b∈fp,FpOk X pins H b)->tn i s.heap->J.go i H ->
  aH (aF P w) X.A (ff (.ref it)) (λr s1=>∃ u,r=some u /\
   aH (aF P w) X.A (eO tg (.ref it) u) (λ_ s2=>∃x H',Inv X pins σ H' s2/\RelV x u/\J.yld i H x H'/\tn (i+1) s2.heap/\∀b∈fp,H' b=none) E s1) E s
 done:∀(X:Cx),X.prog=P->X.w=w->X.K=K->X.calm=true->∀(i:Nat) (pins:List (Addr×Obj)) (s:aj) (σ:St) (H:Hp) (E:ad->aj->Prop),Inv X pins σ H s->(∀b∈fp,FpOk X pins H b)->tn i s.heap->J.stop i H ->
  aH (aF P w) X.A (ff (.ref it)) (λr s1=>r=none/\Inv X pins σ H s1) E s
 self:∀(A:bi) (i:Nat) (s:aj) (Q:ad->aj->Prop) (E:ad->aj->Prop),tn i s.heap->Q (.ref it) s->aH (aF P w) A (jR (.ref it)) Q E s
abbrev TI:=St->Hp->(It->Hp->Prop)->Prop
def PIE(X:Cx)(pins:List (Addr×Obj))(σ:St)(tg:Expr)(R:It->Hp->Prop)(itv:ad)(s2:aj):Prop :=
 ∃(it:Addr) (fp:List Addr) (tn:Nat->bj->Prop) (J:It) (H':Hp),itv=.ref it/\Inv X pins σ H' s2/\Turn X.prog X.w X.K tg J fp it tn/\tn 0 s2.heap/\(∀b∈fp,FpOk X pins H' b)/\R J H'
def PI(X:Cx)(tg iter:Expr)(wi:TI):Prop :=
 ∀(pins:List (Addr×Obj)) (s:aj) (σ:St) (H:Hp) (R:It->Hp->Prop),Inv X pins σ H s->wi σ H R ->
  aH (aF X.prog X.w) X.A (eval iter X.env) (λv s1=>aH (aF X.prog X.w) X.A (jR v) (PIE X pins σ tg R) X.xe s1) X.xe s
theorem eQa{M:Model}{A:bi}{E:ad->aj->Prop}{s:aj}{tg:Expr}{it:Addr}{u:ad}{o:Obj}{n:String}{vs:Array ad}{Q:Unit->aj->Prop}(ho:s.heap.get? it=some o)(hc:o.cls=.type n)(hd:o.data=.fields vs)
    (hn:["enumerate", "zip", "dict_itemiterator", "dict_reverseitemiterator", "odict_iterator", "itertools.zip_longest", "itertools.pairwise"].contains n=false) (hQ:Q () s):aH M A (eO tg (.ref it) u) Q E s:=by
  unfold eO;cases tg <;> first
    |exact af hQ
    | (cases u <;> first
        |exact af hQ
        | (refine aa (wpAny_load ho ?_)
           rw [hc,hd];show aH M A (if (["enumerate", "zip", "dict_itemiterator", "dict_reverseitemiterator", "odict_iterator", "itertools.zip_longest", "itertools.pairwise"].contains n&&vs[0]?==some (fq _))=true then _ else _) Q E s
           rw [if_neg (by intro h; rw [hn,kc] at h; cases h)]
           exact af hQ))
def Itl(K:ax)(a:Addr):It :=
 ⟨λi H=>∃xs x,SqL K H a xs/\xs[i]?=some x,λi H x H'=>H'=H/\∀xs,SqL K H a xs->xs[i]?=some x,λi H=>∃xs,SqL K H a xs/\xs.length<=i⟩
def Itt(K:ax)(a:Addr):It :=
 ⟨λi H=>∃xs x,SqT K H a xs/\xs[i]?=some x,λi H x H'=>H'=H/\∀xs,SqT K H a xs->xs[i]?=some x,λi H=>∃xs,SqT K H a xs/\xs.length<=i⟩
def Itr(lo:Int)(n:Nat):It:=⟨λi _=>i<n,λi H x H'=>H'=H/\x=.int (lo+i),λi _=>n<=i⟩
theorem cXa{P:aD}{w:aR}{K:ax}{tg:Expr}(a it:Addr):Turn P w K tg (Itl K a) [it] it (λi h=>h.IsListIter it a i) where
 mem:=by simp
 obj:=λi h st b j=>by
  have e:b=it:=by simpa using j
  subst e;obtain⟨o,e,c,d⟩:=st;exact⟨o,e,λv z=>by rw[d] at z;cases z⟩
 keep:=λi h h' st k=>st.at λo e=>k it (by simp) o e
 item:=by
  intro X U hw Y hc i pins s σ H E I hf st O;subst U hw Y;obtain⟨xs,x,D,L⟩:=O;obtain⟨J,G,p,hz⟩:=I.list D;obtain⟨u,hu,ru⟩:=G.get L;obtain⟨f0,f1,f2,Z,f4,f5⟩:=hf it (by simp)
  refine wpAny_pyNext_list_item st p.isList (x:=u) (by simpa using hu) λh' B sb=>?_
  have I1:Inv X pins σ H {s with heap:=h'}:=I.turned (t':=s.toks) (λb o j e=>(sb.2 b j).trans e) f0 f1 Z f4 f5
  obtain⟨o,e,c,d⟩:=id B;exact⟨u,rfl,eQa (s:={s with heap:=h'}) e c d (by decide) ⟨x,H,I1,ru,⟨rfl,λys hy=>by rw[I.list_inj hy D];exact L⟩,B,λb j=>(hf b j).1⟩⟩
 done:=by
  intro X U hw Y hc i pins s σ H E I hf st O;subst U hw Y;obtain⟨xs,D,L⟩:=O;obtain⟨J,G,p,hz⟩:=I.list D;obtain⟨f0,f1,f2,Z,f4,f5⟩:=hf it (by simp)
  have hl:=G.length;exact wpAny_pyNext_list_end (I.ok.hd hc) st p.isList (by simp;omega) λh' eb=>⟨rfl,I.turned (t':=s.toks) (λb o j e=>eb b o j e) f0 f1 Z f4 f5⟩
 self:=λ_ _ _ _ _ st h=>wpAny_pyIter_listiter st h
theorem cZo{P:aD}{w:aR}{K:ax}{tg:Expr}(a it:Addr):Turn P w K tg (Itt K a) [it] it (λi h=>h.IsTupleIter it a i) where
 mem:=by simp
 obj:=λi h st b B=>by
  have e:b=it:=by simpa using B
  subst e;obtain⟨o,e,c,d⟩:=st;exact⟨o,e,λv z=>by rw[d] at z;cases z⟩
 keep:=λi h h' st k=>st.at λo e=>k it (by simp) o e
 item:=by
  intro X U hw Y hc i pins s σ H E I hf st O;subst U hw Y;obtain⟨xs,x,G,L⟩:=O;obtain⟨j,J,p,hz⟩:=I.tuple G;obtain⟨u,hu,ru⟩:=J.get L;obtain⟨f0,f1,f2,Z,f4,f5⟩:=hf it (by simp)
  refine wpAny_pyNext_tuple_item st (show s.heap.IsTuple a j.toArray from p) (x:=u) (by simpa using hu) λh' D sb=>?_
  have I1:Inv X pins σ H {s with heap:=h'}:=I.turned (t':=s.toks) (λb o B e=>(sb.2 b B).trans e) f0 f1 Z f4 f5
  obtain⟨o,e,c,d⟩:=id D;exact⟨u,rfl,eQa (s:={s with heap:=h'}) e c d (by decide) ⟨x,H,I1,ru,⟨rfl,λys hy=>by rw[I.tuple_inj hy G];exact L⟩,D,λb B=>(hf b B).1⟩⟩
 done:=by
  intro X U hw Y hc i pins s σ H E I hf st O;subst U hw Y;obtain⟨xs,G,L⟩:=O;obtain⟨j,J,p,hz⟩:=I.tuple G;obtain⟨f0,f1,f2,Z,f4,f5⟩:=hf it (by simp)
  have hl:=J.length;exact wpAny_pyNext_tuple_end (I.ok.hd hc) st (show s.heap.IsTuple a j.toArray from p) (by simp;omega) λh' eb=>⟨rfl,I.turned (t':=s.toks) (λb o B e=>eb b o B e) f0 f1 Z f4 f5⟩
 self:=λ_ _ _ _ _ st h=>wpAny_pyIter_tupleiter st h
theorem cZp{P:aD}{w:aR}{K:ax}{tg:Expr}(it:Addr)(lo:Int)(n:Nat):Turn P w K tg (Itr lo n) [it] it (λi h=>IsRangeIter h it (lo+(i:Nat)*1) ((n:Int)-(i:Nat)) 1) where
 mem:=by simp
 obj:=λi h st b d=>by
  have e:b=it:=by simpa using d
  subst e;exact⟨_,st,λv z=>by
   have z':Data.fields _=Data.cell v:=z;cases z'⟩
 keep:=λi h h' st k=>k it (by simp) _ st
 item:=by
  intro X G hw J D i pins s σ H E I hf st B;subst G hw J;obtain⟨f0,f1,f2,L,f4,f5⟩:=hf it (by simp)
  have W:=Walks.range (prog:=X.prog) (w:=X.w) (I.ok.hd D) it lo 1 n;refine W.item i s _ _ B st λv h' O Y j U=>?_;obtain⟨t,rfl⟩:=Y;have I1:Inv X pins σ H {s with heap:=h',toks:=O}:=I.turned (λb o d e=>U b o (by simpa using d) e) f0 f1 L f4 f5
  refine⟨_,rfl,eQa (s:={s with heap:=h',toks:=O}) (n:="range_iterator") j rfl rfl (by decide) ⟨.int (lo+i),H,I1,⟨t,?_⟩,⟨rfl,rfl⟩,j,λb d=>(hf b d).1⟩⟩
  rw[Int.mul_one]
 done:=by
  intro X G hw J D i pins s σ H E I hf st B;subst G hw J;obtain⟨f0,f1,f2,L,f4,f5⟩:=hf it (by simp)
  exact wpAny_pyNext_range_end (I.ok.hd D) st (by have:n<=i:=B;omega) λh' Z=>⟨rfl,I.turned (t':=s.toks) (λb o d e=>Z b o d e) f0 f1 L f4 f5⟩
 self:=λ_ _ _ _ _ st h=>wpAny_pyIter_rangeiter st h
section
variable{X:Cx}{tg:Expr}
theorem cQd{pins:List (Addr×Obj)}{σ:St}{H:Hp}{s:aj}{R:It->Hp->Prop}{E:ad->aj->Prop}{lo hi:Int}{t u v:Tok}{tk:Nat}(I:Inv X pins σ H s)(h1:-(2^62)<=lo)(h2:lo<2^62)(h3:-(2^62)<=hi)(h4:hi<2^62)
  (q:R (Itr lo (hi-lo).toNat) H):aH (aF X.prog X.w) X.A (jR (.ref s.heap.objs.size)) (PIE X pins σ tg R) E {s with heap:=s.heap.push {cls:=.type "range",data:=.fields #[.int lo t,.int hi u,.int 1 v]},toks:=tk}:=by
 refine wpAny_pyIter_range (IsRange.new ..) (small_one h1 h2 h3 h4) ?_;have d:Inv X pins σ H {s with heap:=s.heap.push {cls:=.type "range",data:=.fields #[.int lo t,.int hi u,.int 1 v]},toks:=tk}:=I.kept λb o e=>ah _ e
 refine⟨(s.heap.push { cls:=.type "range",data:=.fields #[.int lo t,.int hi u,.int 1 v] }).objs.size,[(s.heap.push { cls:=.type "range",data:=.fields #[.int lo t,.int hi u,.int 1 v] }).objs.size],_,_,H,rfl,
  d.kept (t':=tk) λb o e=>ah _ e,cZp _ lo (hi-lo).toNat,?_,λb i=>?_,q⟩
 ·have B:lo+((0:Nat):Int)*1=lo:=by simp
  have j:(((hi-lo).toNat:Nat):Int)-((0:Nat):Int)=cI.Range.rangeSize lo hi 1:=by rw[rangeSize_one];split <;> omega
  show IsRangeIter _ _ (lo+((0:Nat):Int)*1) ((((hi-lo).toNat:Nat):Int)-((0:Nat):Int)) 1;rw[B,j];exact av _ rfl
 ·have e:b=(s.heap.push {cls:=.type "range",data:=.fields #[.int lo t,.int hi u,.int 1 v]}).objs.size:=by simpa using i
  subst e;exact d.fpOk (Nat.le_refl _) (d.hok.fresh (Nat.le_refl _))
def fJh(ta:TA):TI:=fun σ H R=>ta σ H λvs H1=>∃j:Int,vs=[.int j]/\-(2^62)<=j/\j<2^62/\R (Itr 0 j.toNat) H1
def fJi(ta:TA):TI:=fun σ H R=>ta σ H λvs H1=>∃i j:Int,vs=[.int i,.int j]/\(-(2^62)<=i/\i<2^62/\-(2^62)<=j/\j<2^62)/\R (Itr i (j-i).toNat) H1
theorem cXb{a:Expr}{ta:TA}{p pos:Pos}(hg:Gl X "range")(hm:X.mg "range"=none)(ha:PA X [a] ta)(hs:au [a] X.env=[(false,eval a X.env)]:=by rfl):PI X tg (.Call (.Name "range" p) [a] [] pos) (fJh ta):=by
 intro pins s σ H R I h;refine Call_ (ld_blt I hg hm boot_range (cT (thn (ha pos pins s σ H _ I h) λus s1 ⟨vs,H1,B,r1,d⟩=>?_) hs rfl));obtain⟨j,e,d,i,q⟩:=d;subst e;cases r1 with
 |cons r rr =>
  cases rr;obtain⟨t,rfl⟩:=r;exact call_range_1 (cQd B (by omega) (by omega) d i (by simpa using q))
theorem cXc{a b:Expr}{ta:TA}{p pos:Pos}(hg:Gl X "range")(hm:X.mg "range"=none)(ha:PA X [a,b] ta)(hs:au [a,b] X.env=[(false,eval a X.env),(false,eval b X.env)]:=by rfl)(hs2:au [b] X.env=[(false,eval b X.env)]:=by rfl) :
  PI X tg (.Call (.Name "range" p) [a,b] [] pos) (fJi ta):=by
 intro pins s σ H R I h;refine Call_ (ld_blt I hg hm boot_range (cT (thn (ha pos pins s σ H _ I h) λus s1 ⟨vs,H1,L,r1,d⟩=>?_) (by rw[hs,hs2]) (by rw[hs2];rfl)))
 obtain⟨i,j,e,⟨d,J,G,D⟩,q⟩:=d;subst e;cases r1 with
 |cons r rr =>
  cases rr with
  |cons B rr =>
   cases rr;obtain⟨t,rfl⟩:=r;obtain⟨O,rfl⟩:=B;exact call_range_2 (cQd L d J G D q)
def tFor(wi:TI)(g:TG)(tb:TS):TS:=λD σ H=>wi σ H λJ H1=>∃W:Nat->Nat->St->Hp->Prop,(∃m,W 0 m σ H1)/\∀i m σ H,W i m σ H ->
 (J.stop i H/\D.nx σ H)\/(J.go i H/\∃N:St->Hp->Prop,(∀σ' H',N σ' H'->∃m',m'<m/\W (i+1) m' σ' H')/\∀x H',J.yld i H x H'->g x σ H' fun σ2 H2=>tb {D with nx:=N,ct:=N,bk:=D.nx} σ2 H2)
def bXd(fp:List Addr)(h:bj):List (Addr×Obj):=fp.filterMap λb=>(h.get? b).map λo=>(b,o)
theorem aXh{fp:List Addr}{h:bj}{b:Addr}{o:Obj}(hb:b∈fp)(e:h.get? b=some o):(b,o)∈bXd fp h:=ft.mpr ⟨b,hb,by rw[e];rfl⟩
theorem cXd{fp:List Addr}{h:bj}{p:Addr×Obj}(hp:p∈bXd fp h):p.1∈fp/\h.get? p.1=some p.2:=by
 obtain⟨b,d,e⟩:=ft.mp hp;cases q:h.get? b with
 |none=>rw[q] at e;cases e
 |some o =>
  rw[q] at e;have i:(b,o)=p:=aN e;subst i;exact⟨d,q⟩
theorem Inv.pinned{pins:List (Addr×Obj)}{σ:St}{H:Hp}{s:aj}{fp:List Addr}(I:Inv X pins σ H s)(hf:∀b∈fp,FpOk X pins H b)(ho:∀b∈fp,∃o,s.heap.get? b=some o/\∀v,o.data≠.cell v):Inv X (pins++bXd fp s.heap) σ H s :=
 I.pins_of λp j=>(aJ.mp j).elim (λz=>I.pin p (bm _ z)) λz=>by
  obtain⟨i,e⟩:=cXd z;obtain⟨f0,f1,f2,_⟩:=hf p.1 i;obtain⟨o,e',d⟩:=ho p.1 i;rw[e] at e';cases e';exact⟨e,f0,f1,f2,d⟩
theorem Inv.unpinned{pins pl:List (Addr×Obj)}{σ:St}{H:Hp}{s:aj}(I:Inv X (pins++pl) σ H s):Inv X pins σ H s:=I.pins_of λp d=>I.pin p (bm _ (b7 _ d))
theorem fQ6{iter:Expr}{body:List Stmt}{wi:TI}{g:TG}{tb:TS}{pos:Pos}(hp:PassesOwn (aF X.prog X.w) X.A X.env X.xe)(hc:X.calm=true)(hi:PI X tg iter wi)(hg:PG X tg g)(hb:PSs X body tb)
  (hs:∀x,ca iter X.env x=pure x:=by intro _;rfl):PS X (.For tg iter body [] pos) (tFor wi g tb):=by
 intro pins s σ H D I h;refine wpAny_For (thn (hi pins s σ H _ I h) λv s1 h1=>thn h1 λitv s2 h2=>?_) hs;obtain⟨it,fp,tn,J,H2,e,I2,T,st2,f2,W,⟨m0,w0⟩,turn⟩:=h2;subst e;have j:∀{H':Hp},(∀b∈fp,H' b=none)->∀b∈fp,FpOk X pins H' b:=λhn b hb=>⟨hn b hb,(f2 b hb).2⟩;refine codeAny_forLoop_any (λn s'=>∃i σ' H',Inv X pins σ' H' s'/\tn i s'.heap/\(∀b∈fp,H' b=none)/\W i n σ' H') ?_ m0 ⟨0,σ,H2,I2,st2,λb hb=>(f2 b hb).1,w0⟩;rintro n s3 ⟨i,σ3,H3,I3,U,Z,w3⟩;rcases turn i n σ3 H3 w3 with⟨stop,qn⟩|⟨go,N,hN,step⟩
 ·refine gn hp (thn (T.done X rfl rfl rfl hc i pins s3 σ3 H3 X.xe I3 (j Z) U stop) λr s4 ⟨hr,I4⟩=>?_);subst hr;exact wpAny_execs_nil ⟨σ3,H3,I4,qn⟩
 ·refine gn hp (thn (T.item X rfl rfl rfl hc i pins s3 σ3 H3 X.xe I3 (j Z) U go) λr s4 ⟨u,hr,h4⟩=>?_);subst hr;refine gn hp (thn h4 λ_ s5 ⟨x,H5,I5,r5,y5,O,fr5⟩=>?_);have I5':=I5.pinned (j fr5) (T.obj _ _ O);refine gn hp (thn (hg _ s5 σ3 H5 x u _ I5' r5 (step x H5 y5)) λ_ s6 ⟨σ6,H6,I6,q6⟩=>?_);refine gn hp (thn (hb _ s6 σ6 H6 _ I6 q6) λf s7 L=>?_);have again:∀{σ7:St}{G:Hp},Inv X (pins++bXd fp s5.heap) σ7 G s7->N σ7 G->∃m,m<n/\∃i σ' H',Inv X pins σ' H' s7/\tn i s7.heap/\(∀b∈fp,H' b=none)/\W i m σ' H':=λ{σ7 G} B Y=>by
   obtain⟨m',hm,w7⟩:=hN σ7 G Y;refine⟨m',hm,i+1,σ7,G,B.unpinned,T.keep _ _ _ O λb hb o e=>(B.pin (b,o) (bm _ (bm _ (aXh hb e)))).1,λb hb=>?_,w7⟩;obtain⟨o,e,d⟩:=T.obj _ _ O b hb;exact(B.pin (b,o) (bm _ (bm _ (aXh hb e)))).2.1
  cases f with
  |next=>obtain⟨σ7,G,B,Y⟩:=L;exact again B Y
  |cont=>obtain⟨σ7,G,B,Y⟩:=L;exact again B Y
  |brk=>obtain⟨σ7,G,B,L⟩:=L;exact⟨σ7,G,B.unpinned,L⟩
  |ret v=>obtain⟨x7,σ7,G,B,r7,L⟩:=L;exact⟨x7,σ7,G,B.unpinned,r7,L⟩
end
abbrev R2:=V->V->Hp->VK->Prop
def OpR(X:Cx)(f:ad->ad->Sem ad)(r:R2):Prop :=
 ∀(pins:List (Addr×Obj)) (s:aj) (σ:St) (H:Hp) (x y:V) (v u:ad) (Q:VK),Inv X pins σ H s->RelV x v->RelV y u->r x y H Q ->
  aH (aF X.prog X.w) X.A (f v u) (EP X pins σ Q) X.xe s
def UnR(X:Cx)(f:ad->Sem ad)(r:V->Hp->VK->Prop):Prop :=
 ∀(pins:List (Addr×Obj)) (s:aj) (σ:St) (H:Hp) (x:V) (v:ad) (Q:VK),Inv X pins σ H s->RelV x v->r x H Q ->
  aH (aF X.prog X.w) X.A (f v) (EP X pins σ Q) X.xe s
def CallR(X:Cx)(f:ad)(r:List V->Hp->VK->Prop):Prop :=
 ∀(pins:List (Addr×Obj)) (s:aj) (σ:St) (H:Hp) (xs:List V) (us:List ad) (Q:VK),Inv X pins σ H s->Vals xs us->r xs H Q ->
  aH (aF X.prog X.w) X.A (call f us) (EP X pins σ Q) X.xe s
def TruR(X:Cx)(r:V->Hp->(Bool->Hp->Prop)->Prop):Prop :=
 ∀(pins:List (Addr×Obj)) (s:aj) (σ:St) (H:Hp) (x:V) (v:ad) (Q:Bool->Hp->Prop),Inv X pins σ H s->RelV x v->r x H Q ->
  aH (aF X.prog X.w) X.A (truthy v) (TP X pins σ Q) X.xe s
def tOp(r:R2)(ta tb:TE):TE:=fun σ H Q=>ta σ H λx H1=>tb σ H1 λy H2=>r x y H2 Q
def tUn(r:V->Hp->VK->Prop)(ta:TE):TE:=fun σ H Q=>ta σ H λx H1=>r x H1 Q
def rI(C:Int->Int->Prop)(g:Int->Int->V):R2:=λx y H Q=>∃i j,x=.int i/\y=.int j/\C i j/\Q (g i j) H
def rI0(g:Int->Int->V):R2:=λx y H Q=>∃i j,x=.int i/\y=.int j/\Q (g i j) H
def rU(g:Int->V):V->Hp->VK->Prop:=λx H Q=>∃i,x=.int i/\Q (g i) H
section
variable{X:Cx}{a b c:Expr}{ta tb tc:TE}{pos:Pos}
theorem binT(ha:PE X a ta)(hb:PE X b tb){pins:List (Addr×Obj)}{s:aj}{σ:St}{H:Hp}{R:V->V->Hp->Prop}(I:Inv X pins σ H s)
  (h:ta σ H λx H1=>tb σ H1 λy H2=>R x y H2) {Q:ad->aj->Prop}{f:ad->ad->Sem ad}
  (hf:∀v u s2 x y H2,Inv X pins σ H2 s2->RelV x v->RelV y u->R x y H2->aH (aF X.prog X.w) X.A (f v u) Q X.xe s2) :
  aH (aF X.prog X.w) X.A (eval a X.env) (λv s₁=>aH (aF X.prog X.w) X.A (eval b X.env) (λu s₂=>aH (aF X.prog X.w) X.A (f v u) Q X.xe s₂) X.xe s₁) X.xe s:=by
 refine thn (ha pins s σ H _ I h) λv s1 ⟨x,H1,G,i,B⟩=>?_;refine thn (hb pins s1 σ H1 _ G B) λu s2 ⟨y,H2,D,d,j⟩=>?_;exact hf v u s2 x y H2 D i d j
theorem fJj{op:Operator}{r:R2}(ho:OpR X (eC op) r)(ha:PE X a ta)(hb:PE X b tb):PE X (.BinOp a op b pos) (tOp r ta tb):=by
 intro pins s σ H Q I h;exact wpAny_BinOp (binT ha hb I h λv u s2 x y H2 j i d q=>ho pins s2 σ H2 x y v u Q j i d q)
theorem fJk{op:UnaryOp}{r:V->Hp->VK->Prop}(ho:UnR X (unaryOp op) r)(ha:PE X a ta):PE X (.UnaryOp op a pos) (tUn r ta):=by
 intro pins s σ H Q I h;exact UnaryOp_ (thn (ha pins s σ H _ I h) λv s1 ⟨x,H1,j,d,i⟩=>ho pins s1 σ H1 x v Q j d i)
theorem opI{f:ad->ad->Sem ad}{C:Int->Int->Prop}{g:Int->Int->Int}
  (rule:∀(i j:Int) (t u:Tok) (s:aj) (Q:ad->aj->Prop) (E:ad->aj->Prop),C i j->Q (.int (g i j) s.toks) {s with toks:=s.toks+1}->aH (aF X.prog X.w) X.A (f (.int i t) (.int j u)) Q E s) :
  OpR X f (rI C λi j=>.int (g i j)):=by
 intro pins s σ H x y v u Q I D B h;obtain⟨i,j,rfl,rfl,G,q⟩:=h;obtain⟨t,rfl⟩:=D;obtain⟨d,rfl⟩:=B;exact rule i j t d s _ _ G ⟨.int (g i j),H,I.tok _,⟨_,rfl⟩,q⟩
theorem opI0{f:ad->ad->Sem ad}{g:Int->Int->Int}
  (rule:∀(i j:Int) (t u:Tok) (s:aj) (Q:ad->aj->Prop) (E:ad->aj->Prop),Q (.int (g i j) s.toks) {s with toks:=s.toks+1}->aH (aF X.prog X.w) X.A (f (.int i t) (.int j u)) Q E s) :
  OpR X f (rI0 λi j=>.int (g i j)):=by
 intro pins s σ H x y v u Q I D B h;obtain⟨i,j,rfl,rfl,q⟩:=h;obtain⟨t,rfl⟩:=D;obtain⟨d,rfl⟩:=B;exact rule i j t d s _ _ ⟨.int (g i j),H,I.tok _,⟨_,rfl⟩,q⟩
theorem opB0{f:ad->ad->Sem ad}{g:Int->Int->Bool}
  (rule:∀(i j:Int) (t u:Tok) (s:aj) (Q:ad->aj->Prop) (E:ad->aj->Prop),Q (.bool (g i j)) s->aH (aF X.prog X.w) X.A (f (.int i t) (.int j u)) Q E s) :
  OpR X f (rI0 λi j=>.bl (g i j)):=by
 intro pins s σ H x y v u Q I D B h;obtain⟨i,j,rfl,rfl,q⟩:=h;obtain⟨t,rfl⟩:=D;obtain⟨d,rfl⟩:=B;exact rule i j t d s _ _ ⟨.bl (g i j),H,I,rfl,q⟩
def CDiv(i j:Int):Prop:=0<j/\j<1073741824
def CPow(i j:Int):Prop:=0<=j/\j<=1000000/\i.natAbs<2^64
def CMul(i j:Int):Prop:=(-(2^64)<i/\i<2^64)\/(-(2^64)<j/\j<2^64)
theorem CMul.ok{i j:Int}(h:CMul i j):IntMulOk i j:=by
 rcases h with⟨h1,h2⟩|⟨h1,h2⟩
 ·exact .of_left (intBits_le_64 h1 h2)
 ·exact .of_right (intBits_le_64 h1 h2)
theorem op_add:OpR X (eC .Add) (rI0 λi j=>.int (i+j)):=opI0 λ_ _ _ _ _ _ _ q=>add_int q
theorem fQ7:OpR X (eC .Sub) (rI0 λi j=>.int (i-j)):=opI0 λ_ _ _ _ _ _ _ q=>sub_int q
theorem fQ8:OpR X (eC .Mult) (rI CMul λi j=>.int (i*j)):=opI λ_ _ _ _ _ _ _ d q=>mul_int q d.ok
theorem eQb:OpR X (eC .FloorDiv) (rI CDiv λi j=>.int (i/j)):=opI λi j _ _ _ _ _ d q=>by
 have h1:(0:Int)<j:=d.1;have h2:j<1073741824:=d.2;exact floordiv_int (by omega) (by rw[Int.fdiv_eq_ediv_of_nonneg i (by omega)];exact q) (.inl (PyProof.noPylong_small (by omega)))
theorem fQ9:OpR X (eC .Mod) (rI (λ_ j=>0<j) λi j=>.int (i%j)):=opI λi j _ _ _ _ _ d q=>by
 have h1:(0:Int)<j:=d;exact mod_int' (by omega) (by rw[Int.fmod_eq_emod_of_nonneg i (by omega)];exact q)
theorem fQa:OpR X (eC .Pow) (rI CPow λi j=>.int (i^j.toNat)):=opI λ_ _ _ _ _ _ _ d q=>pow_int_small d.1 d.2.1 d.2.2 q
theorem unI{f:ad->Sem ad}{g:Int->Int}
  (rule:∀(i:Int) (t:Tok) (s:aj) (Q:ad->aj->Prop) (E:ad->aj->Prop),Q (.int (g i) s.toks) {s with toks:=s.toks+1}->aH (aF X.prog X.w) X.A (f (.int i t)) Q E s) :
  UnR X f (rU λi=>.int (g i)):=by
 intro pins s σ H x v Q I d h;obtain⟨i,rfl,q⟩:=h;obtain⟨t,rfl⟩:=d;exact rule i t s _ _ ⟨.int (g i),H,I.tok _,⟨_,rfl⟩,q⟩
theorem fQb:UnR X (unaryOp .USub) (rU λi=>.int (-i)):=unI λ_ _ _ _ _ q=>neg_int q
end
section
variable{X:Cx}{a b c:Expr}{ta tb tc:TE}{pos:Pos}
theorem dXs{pins:List (Addr×Obj)}{σ:St}{H:Hp}{s:aj}{Q:VK}{k k':Bool}(I:Inv X pins σ H s)(q:Q (.bl k) H)(e:k=k'):EP X pins σ Q (.bool k') s:=by
 subst e;exact⟨.bl k,H,I,rfl,q⟩
theorem op_lt:OpR X (cu .Lt) (rI0 λi j=>.bl (decide (i<j))):=opB0 λ_ _ _ _ _ _ _ q=>lt_int q
theorem fJl:OpR X (cu .LtE) (rI0 λi j=>.bl (decide (i<=j))):=opB0 λ_ _ _ _ _ _ _ q=>le_int q
theorem fJm:OpR X (cu .Gt) (rI0 λi j=>.bl (decide (j<i))):=opB0 λ_ _ _ _ _ _ _ q=>gt_int q
theorem fJn:OpR X (cu .GtE) (rI0 λi j=>.bl (decide (j<=i))):=opB0 λ_ _ _ _ _ _ _ q=>ge_int q
theorem op_lt_str:OpR X (cu .Lt) (λx y H Q=>∃i j,x=.str i/\y=.str j/\Q (.bl (decide (i.cps.toList<j.cps.toList))) H):=by
 intro pins s σ H x y v u Q I B d h;obtain⟨i,j,rfl,rfl,q⟩:=h;obtain⟨t,rfl⟩:=B;obtain⟨D,rfl⟩:=d;exact lt_str (dXs I q rfl)
theorem fQc:OpR X (cu .Is) (λx y H Q=>y=.non/\Q (.bl (decide (x=.non))) H):=by
 intro pins s σ H x y v u Q I rx ry h;obtain⟨rfl,q⟩:=h;cases ry;refine is_none_gen (dXs I q ?_);cases x <;> first
  |(cases rx;rfl)
  |(obtain⟨t,rfl⟩:=rx;rfl)
theorem OpR.or{f:ad->ad->Sem ad}{r r':R2}(h:OpR X f r)(h':OpR X f r'):OpR X f (λx y H Q=>r x y H Q\/r' x y H Q):=by
 intro pins s σ H x y v u Q I i d q;rcases q with q|q
 ·exact h pins s σ H x y v u Q I i d q
 ·exact h' pins s σ H x y v u Q I i d q
theorem nomark(b:Expr){op:CmpOp}(h:op≠.In:=by decide)(h2:op≠.NotIn:=by decide):d7 op b=false:=by
 have i:(op==CmpOp.In)=false:=by cases op <;> first|rfl|exact absurd rfl h
 have d:(op==CmpOp.NotIn)=false:=by cases op <;> first|rfl|exact absurd rfl h2
 cases b <;> simp[d7,i,d]
theorem eQc{op:CmpOp}{r:R2}(ho:OpR X (cu op) r)(ha:PE X a ta)(hb:PE X b tb)(hm:d7 op b=false):PE X (.Compare a [op] [b] pos) (tOp r ta tb):=by
 intro pins s σ H Q I h;exact wpAny_Compare1 (binT ha hb I h λv u s2 x y H2 j i d q=>ho pins s2 σ H2 x y v u Q j i d q) hm
def eQd(t:TE):TT:=fun σ H Q=>t σ H λx H'=>∃k,x=.bl k/\Q k H'
theorem eQe{op:CmpOp}{r:R2}(ho:OpR X (cu op) r)(ha:PE X a ta)(hb:PE X b tb)(hm:d7 op b=false):PT X (.Compare a [op] [b] pos) (eQd (tOp r ta tb)):=by
 intro pins s σ H Q I h;refine wpAny_isTrue_Compare1 (thn (ha pins s σ H _ I h) λv s1 ⟨x,H1,L,i,D⟩=>thn (hb pins s1 σ H1 _ L D) λu s2 ⟨y,H2,J,d,B⟩ =>
  thn (ho pins s2 σ H2 x y v u _ J i d B) λc s3 ⟨z,O,G,r3,k,e,j⟩=>?_) hm
 subst e;cases r3;exact cS ⟨O,G,j⟩
def dXt(r r':R2)(ta tb tc:TE):TE:=fun σ H Q=>ta σ H λx H1=>tb σ H1 λy H2=>r x y H2 λz H3=>∃k,z=.bl k /\
 (if k=true then tc σ H3 λw' H4=>r' y w' H4 Q else Q (.bl false) H3)
theorem dQv{op op':CmpOp}{r r':R2}(ho:OpR X (cu op) r)(ho':OpR X (cu op') r')(ha:PE X a ta)(hb:PE X b tb)(hc:PE X c tc)
  (hm:lastMarks [op,op'] [b,c]=false:=by with_unfolding_all rfl):PT X (.Compare a [op,op'] [b,c] pos) (eQd (dXt r r' ta tb tc)):=by
 intro pins s σ H Q I h;refine isTrue_chain (thn (ha pins s σ H _ I h) λv s1 ⟨x,H1,I1,O,q1⟩=>test_link (thn (hb pins s1 σ H1 _ I1 q1) λu s2 ⟨y,H2,I2,i,Z⟩ =>
  thn (ho pins s2 σ H2 x y v u _ I2 O i Z) λd s3 ⟨z,D,B,r3,k,e,j⟩=>?_)) hm
 subst e;cases r3;refine cS ?_;cases k with
 |false =>
  obtain⟨k',e',q'⟩:=j;cases e';exact ite_ff ⟨D,B,q'⟩
 |true =>
  refine ite_tt (test_last (thn (hc pins s3 σ D _ B j) λJ s4 ⟨G,H4,I4,L,Y⟩=>thn (ho' pins s4 σ H4 y G u J _ I4 i L Y) λd' s5 ⟨z2,H5,I5,r5,k2,e2,U⟩=>?_));subst e2;cases r5;exact cS ⟨H5,I5,U⟩
def TruV(K:ax)(x:V)(H:Hp)(k:Bool):Prop :=
 match x with
 |.non=>k=false
 |.bl b=>k=b
 |.int i=>k=(i !=0)
 |.str y=>y.length<=sizeLine/\k=((y.length:Int) !=0)
 |.byt y=>y.size<=sizeLine/\k=((y.size:Int) !=0)
 |.ref p=>(∃xs,SqL K H p xs/\k=!xs.isEmpty)\/(∃xs,SqT K H p xs/\k=!xs.isEmpty)\/∃kvs,H p=some (.dK kvs)/\k=!kvs.isEmpty
 |_=>False
theorem cZq{κ:Type}{kvs:List (κ×V)}{vs:List (κ×ad)}(r:KV kvs vs):(!vs.isEmpty)=!kvs.isEmpty:=by
 cases r <;> rfl
theorem bZ1{xs:List V}{its:List ad}(r:Vals xs its):(!its.toArray.isEmpty)=!xs.isEmpty:=by
 cases r <;> simp
theorem bQ3:(sizeLine:Nat)<2^63:=by rw[bu];decide
theorem fQd:TruR X (λx H Q=>∃k,TruV X.K x H k/\Q k H):=by
 intro pins s σ H x v Q I rx h;obtain⟨k,e,q⟩:=h;have hl:=bQ3;have L:sizeLine=16777216:=bu;cases x with
 |non =>
  cases rx;have d:k=false:=e;subst d;exact truthy_none ⟨H,I,q⟩
 |bl b =>
  cases rx;have d:k=b:=e;subst d;exact cS ⟨H,I,q⟩
 |int i =>
  obtain⟨t,rfl⟩:=rx;have d:k=(i !=0):=e;subst d;exact PySem.P.truthy_int ⟨H,I,q⟩
 |str y =>
  obtain⟨t,rfl⟩:=rx;obtain⟨G,d⟩:y.length<=sizeLine/\k=((y.length:Int) !=0):=e;subst d;exact PySem.P.truthy_str (by omega) ⟨H,I.tok _,q⟩
 |byt y =>
  obtain⟨t,rfl⟩:=rx;obtain⟨G,d⟩:y.size<=sizeLine/\k=((y.size:Int) !=0):=e;subst d;exact PySem.W.truthy_bytes (by omega) ⟨H,I.tok _,q⟩
 |ref p =>
  cases rx;have d:(∃xs,SqL X.K H p xs/\k=!xs.isEmpty)\/(∃xs,SqT X.K H p xs/\k=!xs.isEmpty)\/∃kvs,H p=some (.dK kvs)/\k=!kvs.isEmpty:=e;rcases d with⟨xs,j,d⟩|⟨xs,j,d⟩|⟨kvs,j,d⟩
  ·subst d;obtain⟨B,r,pl,D⟩:=I.list j;have hlen:=r.length;exact wpAny_truthy_list pl.isList (by simp only[aq];omega) ⟨H,I.tok _,by rw[bZ1 r];exact q⟩
  ·subst d;obtain⟨B,r,pl,D⟩:=I.tuple j;have hlen:=r.length;exact truthy_tuple pl (by simp only[aq];omega) ⟨H,I.tok _,by rw[bZ1 r];exact q⟩
  ·subst d;obtain⟨D,J,vs,r,m⟩:kvs.length<=sizeLine/\(p==gv)=false/\∃vs,KV kvs vs/\s.heap.DictOf (bQ2 X.prog X.w) p vs:=I.hok p _ j;have hlen:kvs.length=vs.length:=cq r;exact wpAny_truthy_dict J m (by omega) ⟨H,I.tok _,by rw[cZq r];exact q⟩
 |_=>exact(show False from e).elim
theorem dQw(ha:PE X a ta)(he:∀whole,isTrue a X.env whole=(do let v <- whole;fR a.pos;fQ [v] (truthy v))) :
  PT X a (fun σ H Q=>ta σ H λx H'=>∃k,TruV X.K x H' k/\Q k H'):=by
 intro pins s σ H Q I h;exact isTrue_plain (thn (ha pins s σ H _ I h) λv s1 ⟨x,H1,j,d,i⟩=>fQd pins s1 σ H1 x v Q j d i) (he _)
theorem op_add_str:OpR X (eC .Add) (λx y H Q=>∃i j,x=.str i/\y=.str j/\i.length+j.length<=sizeLine/\Q (.str (i++j)) H):=by
 intro pins s σ H x y v u Q I D B h;obtain⟨i,j,rfl,rfl,G,q⟩:=h;obtain⟨t,rfl⟩:=D;obtain⟨d,rfl⟩:=B;exact add_str (λd J=>⟨.str (i++j),H,I.tok _,⟨_,rfl⟩,q⟩) G
theorem aX9{x:V}{us:List ad}(r:Vals [x] us):∃u,us=[u]/\RelV x u:=by
 cases r with
 |cons d r2=>cases r2;exact⟨_,rfl,d⟩
theorem dQx:CallR X (.builtin "abs") (λxs H Q=>∃i,xs=[.int i]/\Q (.int (if i<0 then -i else i)) H):=by
 intro pins s σ H xs us Q I r h;obtain⟨i,rfl,q⟩:=h;obtain⟨u,rfl,t,rfl⟩:=aX9 r;exact call_abs_int λu d=>⟨.int (if i<0 then -i else i),H,I.tok _,⟨_,rfl⟩,q⟩
theorem cXe:CallR X (.type "int") (λxs H Q=>(∃i,xs=[.int i]/\Q (.int i) H)\/∃k,xs=[.bl k]/\Q (.int (if k then 1 else 0)) H):=by
 intro pins s σ H xs us Q I r h;rcases h with⟨i,rfl,q⟩|⟨k,rfl,q⟩
 ·obtain⟨u,rfl,t,rfl⟩:=aX9 r;exact call_int_int ⟨.int i,H,I,⟨_,rfl⟩,q⟩
 ·obtain⟨u,rfl,r1⟩:=aX9 r;cases r1;exact call_int_bool ⟨.int (if k then 1 else 0),H,I.tok _,⟨_,rfl⟩,q⟩
def LenV(K:ax)(x:V)(H:Hp)(n:Nat):Prop :=
 match x with
 |.str y=>y.length<=sizeLine/\n=y.length
 |.byt y=>y.size<=sizeLine/\n=y.size
 |.ref p=>(∃xs,SqL K H p xs/\n=xs.length)\/∃xs,SqT K H p xs/\n=xs.length
 |_=>False
theorem dQy:CallR X (.builtin "len") (λxs H Q=>∃x n,xs=[x]/\LenV X.K x H n/\Q (.int n) H):=by
 intro pins s σ H xs us Q I r h;obtain⟨x,n,rfl,e,q⟩:=h;obtain⟨u,rfl,rx⟩:=aX9 r;have hl:=bQ3;have J:sizeLine=16777216:=bu;cases x with
 |str y =>
  obtain⟨t,rfl⟩:=rx;obtain⟨G,d⟩:y.length<=sizeLine/\n=y.length:=e;subst d;exact len_str (by omega) ⟨.int _,H,I.tok _,⟨_,rfl⟩,q⟩
 |byt y =>
  obtain⟨t,rfl⟩:=rx;obtain⟨G,d⟩:y.size<=sizeLine/\n=y.size:=e;subst d;exact PySem.W.len_bytes (by omega) ⟨.int _,H,I.tok _,⟨_,rfl⟩,q⟩
 |ref p =>
  cases rx;have d:(∃xs,SqL X.K H p xs/\n=xs.length)\/∃xs,SqT X.K H p xs/\n=xs.length:=e;rcases d with⟨xs,B,d⟩|⟨xs,B,d⟩
  ·subst d;obtain⟨j,i,pl,D⟩:=I.list B;have hlen:=i.length;exact Calls.call_len_list pl.isList (by simp only[aq];omega) ⟨.int xs.length,H,I.tok _,⟨_,by simp only[aq];rw[hlen]⟩,q⟩
  ·subst d;obtain⟨j,i,pl,D⟩:=I.tuple B;have hlen:=i.length;exact len_tuple pl (by simp only[aq];omega) ⟨.int xs.length,H,I.tok _,⟨_,by simp only[aq];rw[hlen]⟩,q⟩
 |_=>exact(show False from e).elim
end
structure ObjM(h:bj)(x dx C:Addr)(mA:Str->Option ad):Prop where
 obj:h.get? x=some (j4 C dx)
 ns:h.Ns1 dx mA
 ne:dx≠x
theorem cXf{h:bj}{dx:Addr}{mA:Str->Option ad}(n:h.Ns1 dx mA):∃od,h.get? dx=some od/\∀name,ke name od=some (mA name):=by
 obtain⟨o,es,G,j,hd,B,_,hm⟩:=n;refine⟨o,j,λname=>?_⟩;have e:=hm name;unfold nsFind findBy at e;rw[<- Array.find?_toList] at e;unfold ke;rw[hd];dsimp only
 split
 ·rename_i y q;rw[q] at e;exact congrArg some e
 ·rename_i q;rw[q] at e;have a:es.toList.any (·.refKey)=false:=by
   rw[List.any_eq_false];intro y i;obtain⟨z,t,d⟩:=B y (dz.mp i);simp[DictEntry.refKey,d]
  have D:¬ es.toList.any (·.refKey)=true:=by rw[a];exact ce
  rw[if_neg D];exact congrArg some e
theorem ObjM.look{h:bj}{x dx C:Addr}{mA:Str->Option ad}(I:ObjM h x dx C mA):∃od,PySem.W.InstAt h x (j4 C dx) C (some od)/\∀name,ke name od=some (mA name) :=
 let ⟨od,d,hl⟩:=cXf I.ns
 ⟨od,⟨I.obj,rfl,rfl,d⟩,hl⟩
section
variable{P:aD}{w:aR}{H H':Hp}{h h':bj}{a C dx:Addr}{fs fs':List (Str×V)}
theorem eQf(hok:HOk P w H h)(e:H a=some (.ins C dx fs)):∃mA,ObjM h a dx C mA/\(∀f,RelO (fs.lookup f) (mA f))/\PySem.Within mA (fs.map (·.1))/\fs.length<=1000/\H dx=some (.own a):=by
 obtain⟨d,z,ne,i,mA,n,r,q⟩:=(show ObjOk P w H h a (.ins C dx fs) from hok a _ e)
 exact⟨mA,⟨i,n,ne⟩,r,q,z,d⟩
end
structure Cls(K:ax)(C:Addr):Prop where
 pg:PySem.W.plainGet K C Str.empty=true
 hd:PySem.W.hasDictIn K C=true
 po:PySem.W.plainOver K C=true
 sa:PySem.W.findIn K (.ref C) "__setattr__"=some (some (.builtin "object.__setattr__"))
theorem Cls.get{K:ax}{C:Addr}(c:Cls K C)(f:Str):PySem.W.plainGet K C f=true:=c.pg
section
variable{X:Cx}{pins:List (Addr×Obj)}{σ:St}{H:Hp}{s:aj}{A:bi}{E:ad->aj->Prop}{Q:ad->aj->Prop}{c:ad}{b:Bool}
inductive TyOf(K:ax)(H:Hp):V->ad->Prop where
 |non:TyOf K H .non (.type "NoneType")
 |bl (x:Bool):TyOf K H (.bl x) (.type "bool")
 |int (i:Int):TyOf K H (.int i) (.type "int")
 |str (x:Str):TyOf K H (.str x) (.type "str")
 |flt (x:UInt64):TyOf K H (.flt x) (.type "float")
 |lst {a:Addr}{xs:List V}(e:H a=some (.lst xs)):TyOf K H (.ref a) (.type "list")
 |frz {a:Addr}{o:Obj}{xs:List V}(e:H a=some (.frz o (.lst xs))):TyOf K H (.ref a) (.type "list")
 |tup {a:Addr}{xs:List V}(e:H a=some (.tup xs)):TyOf K H (.ref a) (.type "tuple")
 |dK {a:Addr}{kvs:List (Key×V)}(e:H a=some (.dK kvs)):TyOf K H (.ref a) (.type "dict")
 |dT {a:Addr}{kvs:List (List Key×V)}(e:H a=some (.dT kvs)):TyOf K H (.ref a) (.type "dict")
 |ins {a C dx:Addr}{fs:List (Str×V)}(e:H a=some (.ins C dx fs)) (cl:Cls K C) (ha:PySem.W.findIn K (.ref C) "__class__"=some (some (.builtin "object.__class__")))
   (hn:PySem.W.specialIn K (.builtin "object.__class__") "__get__"=some (some (.builtin "getset_descriptor.__get__"))) (htk:PySem.W.takesIn K (.builtin "object.__class__")=some true)
   (hm:PySem.W.mroIn K C (.type "object")=some true):TyOf K H (.ref a) (.ref C)
theorem cXg{x:V}{u t:ad}(I:Inv X pins σ H s)(rx:RelV x u)(ty:TyOf X.K H x t)(e:iP X.K t c=some b)(h:∀tk,Q (.bool b) {s with toks:=tk}) :
  aH (aF X.prog X.w) A (call (.builtin "isinstance") [u,c]) Q E s:=by
 cases ty with
 |non=>cases (show u=cC from rx);exact cJ PySem.W.kitx_none I.kIn g8 e (λz=>nomatch z) h
 |bl y=>cases (show u=kA y from rx);exact cJ PySem.W.kitx_bool I.kIn g8 e (λz=>nomatch z) h
 |int i=>obtain⟨t,q⟩:=(show ∃t,u=kr i t from rx);cases q;exact cJ PySem.W.kitx_int I.kIn g8 e (λz=>nomatch z) h
 |str y=>obtain⟨t,q⟩:=(show ∃t,u=iL y t from rx);cases q;exact cJ PySem.W.kitx_str I.kIn g8 e (λz=>nomatch z) h
 |flt y=>obtain⟨t,q⟩:=(show ∃t,u=ad.float y t from rx);cases q;exact cJ PySem.W.kitx_float I.kIn g8 e (λz=>nomatch z) h
 |@lst a xs d =>
  cases (show u=dZ a from rx)
  obtain⟨_,_,n,_,h1⟩:=(show ObjOk X.prog X.w H s.heap a (.lst xs) from I.hok a _ d)
  exact cJ jg I.kIn ⟨_,h1,rfl⟩ e (λz=>nomatch z) h
 |@frz a D xs d =>
  cases (show u=dZ a from rx)
  obtain⟨_,_,_,n,_,h1⟩:=(show ObjOk X.prog X.w H s.heap a (.frz D (.lst xs)) from I.hok a _ d)
  exact cJ jg I.kIn ⟨_,h1,rfl⟩ e (λz=>nomatch z) h
 |@tup a xs d =>
  cases (show u=dZ a from rx)
  obtain⟨_,_,_,p,_⟩:=(show ObjOk X.prog X.w H s.heap a (.tup xs) from I.hok a _ d)
  obtain⟨o,h1,h2,_⟩:=p;exact cJ PySem.W.kitx_tuple I.kIn ⟨o,h1,h2⟩ e (λz=>nomatch z) h
 |@dK a j d =>
  cases (show u=dZ a from rx)
  obtain⟨_,_,vs,_,p⟩:=(show ObjOk X.prog X.w H s.heap a (.dK j) from I.hok a _ d)
  obtain⟨o,es,U,h1,h2,_⟩:=p;exact cJ PySem.W.kitx_dict I.kIn ⟨o,h1,h2.1⟩ e (λz=>nomatch z) h
 |@dT a j d =>
  cases (show u=dZ a from rx)
  obtain⟨_,_,xs,_,o,es,U,h1,h2,_⟩:=(show ObjOk X.prog X.w H s.heap a (.dT j) from I.hok a _ d)
  exact cJ PySem.W.kitx_dict I.kIn ⟨o,h1,h2.1⟩ e (λz=>nomatch z) h
 |@ins a C dx fs d cl L G B hm =>
  cases (show u=dZ a from rx)
  obtain⟨Z,O,_⟩:=eQf I.hok d;obtain⟨Y,J,_⟩:=O.look;exact cJ (PySem.W.kitx_own (cl.get _) cl.hd L G B hm) I.kIn J e (λz=>nomatch z) h
end
structure Room(k:Nat)(A:bi):Prop where
 hd:A.handled=none
 dp:A.depth+3*k+5<recursionLimit
 un:A.units+16*k+200<cQ
theorem Room.mono{j k:Nat}{A:bi}(r:Room k A)(h:j<=k):Room j A:=⟨r.hd,by have:=r.dp;omega,by have:=r.un;omega⟩
theorem Room.deeper{k:Nat}{A:bi}(r:Room (k+1) A)(env:Env):Room k (A.deeper env) :=
 ⟨r.hd,by have:=r.dp;show A.depth+1+3*k+5<_;omega,by have:=r.un;show A.units+3+16*k+200<_;omega⟩
theorem Room.depth{k:Nat}{A:bi}(r:Room k A):A.depth<recursionLimit:=by have:=r.dp;omega
theorem Room.units{k:Nat}{A:bi}(r:Room k A):A.units+64<cQ:=by have:=r.un;omega
theorem Room.units0{k:Nat}{A:bi}(r:Room k A):A.units<cQ:=by have:=r.un;omega
def tNil:TA:=λ_ H Q=>Q [] H
def fJo(ta:TE)(tr:TA):TA:=fun σ H Q=>ta σ H λx H1=>tr σ H1 λxs H2=>Q (x::xs) H2
section
variable{X:Cx}{e:Expr}{es:List Expr}{te:TE}{t:TA}{pos:Pos}
theorem aXu:PA X [] tNil:=λ_ _ _ _ H Q I h=>Calls.spliced_nil ⟨[],H,I,.nil,h⟩
theorem aX3(ha:PE X e te)(hr:PA X es t)(hs:au (e::es) X.env=(false,eval e X.env)::au es X.env:=by rfl):PA X (e::es) (fJo te t):=by
 intro pos pins s σ H Q I h;rw[hs];show aH _ _ (spliced ((false,eval e X.env)::cD pos (au es X.env))) _ _ s;refine Calls.spliced_cons (thn (ha pins s σ H _ I h) λu s1 ⟨x,H1,G,i,B⟩=>?_);exact thn (hr pos pins s1 σ H1 _ G B) λus s2 ⟨xs,H2,D,d,j⟩=>⟨x::xs,H2,D,.cons i d,j⟩
def tTup(t:TA):TE:=fun σ H Q=>t σ H λxs H1=>xs.length<=sizeLine/\∀p,H1 p=none->Q (.ref p) (upd H1 p (.tup xs))
def tLst(t:TA):TE:=fun σ H Q=>t σ H λxs H1=>xs.length<=sizeLine/\∀p,H1 p=none->Q (.ref p) (upd H1 p (.lst xs))
theorem fQe{x1}(h:PA X es t):PE X (.Tuple es x1 pos) (tTup t):=by
 intro pins s σ H Q I i;refine wpAny_Tuple_spliced (thn (h pos pins s σ H _ I i) λus s1 ⟨xs,H1,d,r,z,q⟩=>⟨by rw[<- r.length];exact z,?_⟩)
 have hf:H1 s1.heap.objs.size=none:=d.hok.fresh (Nat.le_refl _);refine⟨.ref s1.heap.objs.size,upd H1 s1.heap.objs.size (.tup xs),d.laid (t':=s1.toks) (λb u e=>ah _ e) (Nat.le_refl _) ?_,rfl,q _ hf⟩;exact⟨z,us,r,⟨_,av _ rfl,rfl,_,rfl⟩,cQb⟩
theorem fQf(h:PA X es t):PE X (.List es pos) (tLst t):=by
 intro pins s σ H Q I i;refine wpAny_List_spliced (thn (h pos pins s σ H _ I i) λus s1 ⟨xs,H1,d,r,z,q⟩=>⟨by rw[<- r.length];exact z,?_⟩)
 have hf:H1 s1.heap.objs.size=none:=d.hok.fresh (Nat.le_refl _);refine⟨.ref s1.heap.objs.size,upd H1 s1.heap.objs.size (.lst xs),d.laid (t':=s1.toks) (λb u e=>ah _ e) (Nat.le_refl _) ?_,rfl,q _ hf⟩;exact⟨z,us,0,r,av _ rfl⟩
end
abbrev Sp:=List V->Hp->VK->XK->Prop
abbrev CXT:=List Env->Hp->aj->XK->ad->aj->Prop
structure Env0(P:aD)(w:aR)(K:ax)(mg:Str->Option ad)(base:bj)(A:bi)(outer:List Env)(s:aj)(H:Hp):Prop where
 frames:A.frames=some outer
 gd:A.guards=some []
 mod:Mod K mg base
 bs:∀b o,base.get? b=some o->s.heap.get? b=some o/\H b=none
 bsz:base.objs.size<=s.heap.objs.size
 funs:s.heap.FunFrames base outer
 frf:∀b∈frs outer,H b=none
 hok:HOk P w H s.heap
 bare:jf s.gens
def CE(outer:List Env)(P:aD)(w:aR)(H:Hp)(s:aj)(Q:VK)(u:ad)(s':aj):Prop :=
 ∃v H',s'.os=s.os/\jf s'.gens/\Un (frs outer) [] H H' s.heap s'.heap/\HOk P w H' s'.heap/\RelV v u/\Q v H'
def CR(CX:CXT)(outer:List Env)(P:aD)(w:aR)(H:Hp)(s:aj)(Q:VK)(E:XK)(r:Result)(s':aj):Prop :=
 match r with
 |.ok (.ret u)=>CE outer P w H s Q u s'
 |.ok _=>False
 |.error e=>CX outer H s E e s'
structure FnOk(P:aD)(w:aR)(K:ax)(mg:Str->Option ad)(base:bj)(CX:CXT)(k:Nat)(f:Addr)(fd:d8)(ps:List Str)(sp:Sp):Prop where
 len:∀vs H Q E,sp vs H Q E->vs.length=ps.length
 run:∀(A:bi) (outer:List Env) (s:aj) (H:Hp) (args:Args) (us:List ad) (vs:List V) (Q:VK) (E:XK),Room k A->Env0 P w K mg base A outer s H->BindsTo s fd args (ps.zip us)->Vals vs us->sp vs H Q E ->
  fu (aF P w) A (.call (.ref f) args) (CR CX outer P w H s Q E) s
theorem FnOk.mono{P:aD}{w:aR}{K:ax}{mg:Str->Option ad}{base:bj}{CX:CXT}{j k:Nat}{f:Addr}{fd:d8}{ps:List Str}{sp:Sp}(F:FnOk P w K mg base CX j f fd ps sp)(h:j<=k) :
  FnOk P w K mg base CX k f fd ps sp:=⟨F.len,λA outer s H args us vs Q E d=>F.run A outer s H args us vs Q E (d.mono h)⟩
section
variable{X:Cx}{pins:List (Addr×Obj)}{σ:St}{H:Hp}{s s':aj}
theorem Inv.env0(I:Inv X pins σ H s):Env0 X.prog X.w X.K X.mg X.base X.A X.stack s H :=
 ⟨I.ok.frames,I.ok.gd,I.ok.mod,I.bs,Nat.le_trans I.ok.bsz I.sz,I.stack,I.stkFree,I.hok,I.bare⟩
theorem Inv.after{Q:VK}{u:ad}(I:Inv X pins σ H s)(h:CE X.stack X.prog X.w H s Q u s'):EP X pins σ Q u s':=by
 obtain⟨v,H',os,bare,un,hok,r,q⟩:=h;obtain⟨j,g,d,t,i⟩:=s';obtain rfl:i=s.os:=os;exact⟨v,H',I.call (h':=j) (g':=g) (d':=d) (t':=t) (ch:=[]) un hok bare (λb z=>absurd z (by simp)),r,q⟩
end
def fQg(sp:Sp)(dvs:List V)(E:XK)(t:TA):TE:=fun σ H Q=>t σ H λvs H1=>sp (vs++dvs) H1 Q E
def Binds(K:ax)(fd:d8)(ps:List Str)(ds:List ad):Prop :=
 ∀(s:aj) (us:List ad),K.In s.heap->(us++ds).length=ps.length->BindsTo s fd ⟨us,[]⟩ (ps.zip (us++ds))
theorem Binds.all{K:ax}{fd:d8}{ps:List Str}(h:∀us:List ad,us.length=ps.length->bindArgs fd ⟨us,[]⟩=pure (ps.zip us)):Binds K fd ps []:=λs us _ hl=>by
 rw[bD] at hl ⊢;exact .of_eq (h us hl)
def cXh(CX:CXT)(X:Cx)(E:XK):Prop:=∀(pins:List (Addr×Obj)) (σ:St) (H:Hp) (s:aj) (e:ad) (s':aj),Inv X pins σ H s->CX X.stack H s E e s'->X.xe e s'
section
variable{X:Cx}{CX:CXT}{k:Nat}{f C:Addr}{fd:d8}{ps:List Str}{sp:Sp}{dvs:List V}{ds:List ad}{E:XK}{x m:Str}{p pos apos:Pos}{e o:Expr}{es:List Expr}{ta:TE}{t:TA}
theorem fQh{pins:List (Addr×Obj)}{σ:St}{H:Hp}{s:aj}{Q:VK}{us:List ad}{vs:List V}(F:FnOk X.prog X.w X.K X.mg X.base CX k f fd ps sp)(hr:Room k X.A)(hb:Binds X.K fd ps ds)(hd:Vals dvs ds)(hx:cXh CX X E)
  (I:Inv X pins σ H s) (r:Vals vs us) (h:sp (vs++dvs) H Q E):aH (aF X.prog X.w) X.A (call (.ref f) us) (EP X pins σ Q) X.xe s:=by
 have i:Vals (vs++dvs) (us++ds):=r.append hd;have hl:(us++ds).length=ps.length:=by rw[<- i.length];exact F.len _ _ _ _ h
 refine wpAny_call (iD (F.run X.A X.stack s H ⟨us,[]⟩ (us++ds) (vs++dvs) Q E hr I.env0 (hb s us I.kIn hl) i h) λr s' d=>?_);cases r with
 |error e=>exact hx pins σ H s e s' I d
 |ok fl =>
  cases fl with
  |ret u=>exact I.after d
  |next=>exact eB d
  |brk=>exact eB d
  |cont=>exact eB d
theorem eQg(F:FnOk X.prog X.w X.K X.mg X.base CX k f fd ps sp)(hr:Room k X.A)(hg:Gl X x)(hm:X.mg x=some (.ref f))(hk:fH X.K (.ref f)=true)(hb:Binds X.K fd ps ds)(hd:Vals dvs ds)(hx:cXh CX X E)
  (ha:PA X (e::es) t) (hdb:(x==("__debug__":Str))=false:=by decide) (he:au (e::es) X.env=(false,eval e X.env)::au es X.env:=by rfl) (hpl:(cD pos (au es X.env)).any (·.1)=false:=by rfl) :
  PE X (.Call (.Name x p) (e::es) [] pos) (fQg sp dvs E t):=by
 intro pins s σ H Q I h;refine gw (ld_glob I hg hm ?_ hdb);refine PySem.W.callWith_K (h₀:=X.base) I.ok.mod.kin hk (thn (ha pos pins s σ H _ I h) λus s1 ⟨vs,H1,d,r,q⟩=>⟨d.kIn,?_⟩) he hpl;exact fQh F hr hb hd hx d r q
end
structure FnScope(N P:List Str)(sc:Scope):Prop where
 kind:sc.kind=.function
 co:sc.isCoroutine=false
 gen:sc.isGenerator=false
 nd:N.Nodup
 pre:N.take P.length=P
 par:∀x∈P,sc.names.lookup x=some .local\/sc.names.lookup x=some .cell
 nofree:∀y∈sc.names,y.2≠.free
theorem bXe{kindOf:Str->Option fy}{x:Str}:∀{binds:List (Str×ad)}{m:Str->Option ad},(∀v,(x,v)∉binds)->bindL kindOf binds m x=m x
 |[],_,_=>rfl
 |(n,v)::r,m,h=>by
  unfold bindL;rw[bXe λw hw=>h w (am _ hw)]
  split
  ·have:x≠n:=by rintro rfl;exact h v ao
   simp[this]
  ·rfl
theorem bindC_out{kindOf:Str->Option fy}{x:Str}:∀{binds:List (Str×ad)}{m:Str->Option ad},(∀v,(x,v)∉binds)->bindC kindOf binds m x=m x
 |[],_,_=>rfl
 |(n,v)::r,m,h=>by
  unfold bindC;rw[bindC_out λw hw=>h w (am _ hw)]
  split
  ·rfl
  ·have:x≠n:=by rintro rfl;exact h v ao
   simp[this]
theorem bindL_get{kindOf:Str->Option fy}{x:Str}{v:ad}:∀{P:List Str}{vs:List ad}{i:Nat}{m:Str->Option ad},P.Nodup->P[i]?=some x->vs[i]?=some v->kindOf x=some .local ->
  bindL kindOf (P.zip vs) m x=some v
 |[],_,_,_,_,h,_,_=>by simp at h
 |_::_,[],_,_,_,_,h,_=>by simp at h
 |p::P,w::vs,0,m,nd,h1,h2,d=>by
  simp at h1 h2;subst h1;subst h2;show bindL kindOf ((p,w)::P.zip vs) m p=_;unfold bindL;rw[bXe λv j=>(bS.mp nd).1 (j5 j).1,if_pos d];simp
 |p::P,w::vs,i+1,m,nd,h1,h2,d=>by
  show bindL kindOf ((p,w)::P.zip vs) m x=_;unfold bindL;exact bindL_get (i:=i) (bS.mp nd).2 (by simpa using h1) (by simpa using h2) d
theorem bXf{kindOf:Str->Option fy}{x:Str}{v:ad}:∀{P:List Str}{vs:List ad}{i:Nat}{m:Str->Option ad},P.Nodup->P[i]?=some x->vs[i]?=some v->kindOf x≠some .local ->
  bindC kindOf (P.zip vs) m x=some v
 |[],_,_,_,_,h,_,_=>by simp at h
 |_::_,[],_,_,_,_,h,_=>by simp at h
 |p::P,w::vs,0,m,nd,h1,h2,d=>by
  simp at h1 h2;subst h1;subst h2;show bindC kindOf ((p,w)::P.zip vs) m p=_;unfold bindC;rw[bindC_out λv j=>(bS.mp nd).1 (j5 j).1,if_neg d];simp
 |p::P,w::vs,i+1,m,nd,h1,h2,d=>by
  show bindC kindOf ((p,w)::P.zip vs) m x=_;unfold bindC;exact bXf (i:=i) (bS.mp nd).2 (by simpa using h1) (by simpa using h2) d
def start(N:List Str)(vs:List V):St:=vs.map some++fI (N.length-vs.length) none
def cxOf(CX:CXT)(P:aD)(w:aR)(K:ax)(mg:Str->Option ad)(base:bj)(N:List Str)(qual:Str)(scope:Scope)(f:Addr)(cd:ad)(A:bi)(outer:List Env)(s:aj)(H:Hp)(E:XK):Cx where
 prog:=P
 w:=w
 K:=K
 mg:=mg
 base:=base
 A:=A.deeper (jr qual scope s.heap.objs.size f cd)
 N:=N
 s₀:=s
 H₀:=H
 env:=jr qual scope s.heap.objs.size f cd
 outer:=outer
 stack:=jr qual scope s.heap.objs.size f cd::outer
 ex:=[]
 calm:=true
 fn:=λ_=>true
 pn:=[]
 xe:=λe s'=>aH (aF P w) (A.deeper (jr qual scope s.heap.objs.size f cd)) (leaving (jr qual scope s.heap.objs.size f cd) e) (λ_ s''=>CX outer H s E e s'') (λe' s''=>CX outer H s E e' s'') s'
theorem cQe{sc:Scope}{n:Nat}{x:Str}(h:sc.names.lookup x=some .cell):∃c,(eP n sc.names []).lookup x=some c:=by
 have q:=jS sc.names n [] (.inl h);exact b8.mp q
theorem cXi{CX:CXT}{P:aD}{w:aR}{K:ax}{mg:Str->Option ad}{base:bj}{N ps:List Str}{qual:Str}{scope:Scope}{f:Addr}{cd:ad}{A:bi}{outer:List Env}{s s1:aj}{H:Hp}{E:XK}{us:List ad}{vs:List V}
  (S:FnScope N ps scope) (hd:A.handled=none) (e0:Env0 P w K mg base A outer s H) (hl:vs.length=ps.length) (r:Vals vs us)
  (x:InCallC s s.heap.objs.size (bindL (jr qual scope s.heap.objs.size f cd).kindOf (ps.zip us) λ_=>none) (eP (s.heap.objs.size+1) scope.names []) (bindC (jr qual scope s.heap.objs.size f cd).kindOf (ps.zip us) λ_=>none) s1) :
  Inv (cxOf CX P w K mg base N qual scope f cd A outer s H E) [] (start N vs) H s1:=by
 have O:ps.length<=N.length:=by have:=congrArg fj S.pre;rw[aK] at this;omega
 obtain⟨h1,Y,rfl,J⟩:=x.done;have d:∀b:Addr,b∉(cxOf CX P w K mg base N qual scope f cd A outer s H E).ex:=λb z=>absurd (show b∈([]:List Addr) from z) (by simp)
 refine⟨⟨e0.mod,S.kind,rfl,rfl,Nat.le_refl _,λy z c h1 h2=>?_,λy j=>?_,λy c _ h=>?_,λ_=>hd,bi.frames_deeper e0.frames,e0.gd,.inr ⟨rfl,rfl⟩,λb z=>absurd z (d b),e0.bs,e0.bsz,λb _ _=>d b,λb z=>absurd z (d b),e0.funs,e0.frf⟩,
  rfl,e0.bare,Un.kept J,⟨_,x.toInCall.ns,λi y v h1 h2 Z=>?_⟩,λy c h=>⟨_,x.cell y c h⟩,e0.hok.fresh (Nat.le_refl _),λy c h=>?_,λp D=>absurd (show p∈([]:List (Addr×Obj)) from D) (by simp),e0.hok.kept J,?_⟩
 ·exact name_of_addr x.apart (e9 h1) (e9 h2)
 ·have j:scope.names.lookup y=some .cell\/scope.names.lookup y=some .free:=j;rcases j with j|j
  ·exact cQe j
  ·exact absurd rfl (S.nofree _ (e9 j))
 ·exact Nat.le_of_lt (x.above y c (e9 h))
 ·have hi:i<vs.length:=by
   unfold start at h2
   by_cases hi:i<vs.length
   ·exact hi
   ·rw[cf (by simpa using hi)] at h2
    rw[List.getElem?_replicate] at h2
    split at h2 <;> cases h2
  have U:vs[i]?=some v:=by
   unfold start at h2;rw[dU (by simpa using hi),aQ] at h2
   cases e:vs[i]? with
   |none=>rw[e] at h2;cases h2
   |some a=>rw[e] at h2;cases h2;rfl
  obtain⟨u,G,L⟩:=r.get U;have D:ps[i]?=some y:=by
   rw[<- S.pre,f8 (by omega)];exact h1
  have B:ps.Nodup:=by rw[<- S.pre];exact S.nd.sublist (gF _ _)
  refine⟨u,L,?_⟩;rcases S.par y (ak D) with k|k
  ·exact .inl ⟨k,bindL_get B D G k⟩
  ·obtain⟨c,e⟩:=cQe (n:=s.heap.objs.size+1) k;refine .inr ⟨.inl k,c,e,?_⟩;have q:=x.cell y c e;rw[bXf B D G (by show scope.names.lookup y≠_;rw[k];decide)] at q
   exact q
 ·exact e0.hok.fresh (Nat.le_of_lt (x.above y c (e9 h)))
 ·unfold start;show _=N.length;rw[ar,ae,List.length_replicate];omega
theorem fJp{CX:CXT}{P:aD}{w:aR}{K:ax}{mg:Str->Option ad}{base:bj}{k:Nat}{f:Addr}{name qual:Str}{params:Arguments}{body:List Stmt}{scope:Scope}{dV kV doc pm cdv ct oc:ad}{an od:Option Addr}
  {osl:Array (Option ad)}{N ps:List Str}{sp:Sp}(lk:K.lookup f=some ⟨oc,od,.func (eT name qual params body scope dV kV doc pm an cdv ct),osl⟩) (hcd:gG K cdv qual=true) (S:FnScope N ps scope)
  (len:∀vs H Q E,sp vs H Q E->vs.length=ps.length)
  (hbody:∀ (A:bi) (outer:List Env) (s:aj) (H:Hp) (vs:List V) (Q:VK) (E:XK),Room k (A.deeper (jr qual scope s.heap.objs.size f cdv))->sp vs H Q E ->
   ∃t,PSs (cxOf CX P w K mg base N qual scope f cdv A outer s H E) body t/\t {nx:=λ_ H'=>Q .non H',rt:=Q} (start N vs) H) :
  FnOk P w K mg base CX (k+1) f (eT name qual params body scope dV kV doc pm an cdv ct) ps sp:=by
 refine⟨len,λA outer s H args us vs Q E G B Y r j=>?_⟩;have hl:=len _ _ _ _ j;have KX:K.In s.heap:=B.mod.kin.keeps λb o e=>(B.bs b o e).1;have lim:s.heap.NoLimit:=B.mod.nolimit.keeps λb o e=>(B.bs b o e).1;have d:∀y∈ps.zip us,scope.names.lookup y.1=some .local\/(scope.names.lookup y.1=some .cell/\((eP (s.heap.objs.size+1) scope.names []).lookup y.1).isSome=true):=λ⟨n,v⟩ L=>by
  rcases S.par n (j5 L).1 with q|q
  ·exact .inl q
  ·exact .inr ⟨q,jS _ _ _ (.inl q)⟩
 refine codeAny_call_function G.depth (KX _ _ lk) rfl S.co S.gen rfl (PySem.W.codeRec_of KX hcd) (Y _ _ _ _ ?_);refine wpAny_newFunctionEnv_cells S.kind d λenv he s1 x=>?_;subst he;refine⟨lim.keeps x.toInCall.keep,codeAny_func ?_⟩;obtain⟨t,O,U⟩:=hbody A outer s H vs Q E (G.deeper _) j;have I:Inv (cxOf CX P w K mg base N qual scope f cdv A outer s H E) [] (start N vs) H s1:=cXi S G.hd B hl r x;refine eA (O [] s1 (start N vs) H _ I U) (λfl s' i=>?_) λe s' i=>i;have fin:∀{σ':St}{H':Hp}{v:V}{u:ad},Inv (cxOf CX P w K mg base N qual scope f cdv A outer s H E) [] σ' H' s'->RelV v u->Q v H'->CE outer P w H s Q u s' :=
  λ{σ' H' v u} J D q=>⟨v,H',J.os,J.bare,J.base,J.hok,D,q⟩
 cases fl with
 |ret u =>
  obtain⟨v,σ',H',J,D,q⟩:=i;exact fin J D q
 |next =>
  obtain⟨σ',H',J,q⟩:=i;exact fin (v:=V.non) (u:=cC) J rfl q
 |brk =>
  obtain⟨_,_,_,q⟩:=i;exact eB q
 |cont =>
  obtain⟨_,_,_,q⟩:=i;exact eB q
section
variable{X:Cx}{x:Str}{p pos:Pos}{e:Expr}{es:List Expr}{t:TA}{id T:String}{r:List V->Hp->VK->Prop}
def tCB(r:List V->Hp->VK->Prop)(t:TA):TE:=fun σ H Q=>t σ H λvs H1=>r vs H1 Q
theorem aXi(hc:CallR X (.builtin id) r)(hg:Gl X x)(hm:X.mg x=none)(hv:bH x=some (.builtin id))(ha:PA X (e::es) t)(hn:x ≠ "__name__":=by decide)(hdb:(x==("__debug__":Str))=false:=by decide)
  (he:au (e::es) X.env=(false,eval e X.env)::au es X.env:=by rfl) (hpl:(cD pos (au es X.env)).any (·.1)=false:=by rfl):PE X (.Call (.Name x p) (e::es) [] pos) (tCB r t):=by
 intro pins s σ H Q I h;refine gw (ld_blt I hg hm hv ?_ hn hdb);exact PyProof.Rows.callWith_builtin1 (thn (ha pos pins s σ H _ I h) λus s1 ⟨vs,H1,j,d,i⟩=>hc pins s1 σ H1 vs us Q j d i) he hpl
theorem aXv(hc:CallR X (.type T) r)(hg:Gl X x)(hm:X.mg x=none)(hv:bH x=some (.type T))(ha:PA X (e::es) t)(hn:x ≠ "__name__":=by decide)(hdb:(x==("__debug__":Str))=false:=by decide)
  (he:au (e::es) X.env=(false,eval e X.env)::au es X.env:=by rfl) (hpl:(cD pos (au es X.env)).any (·.1)=false:=by rfl):PE X (.Call (.Name x p) (e::es) [] pos) (tCB r t):=by
 intro pins s σ H Q I h;refine gw (ld_blt I hg hm hv ?_ hn hdb);exact cT (thn (ha pos pins s σ H _ I h) λus s1 ⟨vs,H1,j,d,i⟩=>hc pins s1 σ H1 vs us Q j d i) he hpl
end
end L2
namespace HT
open PySem PyProof.Rows
theorem rcLt_int(A:bi)(s:aj)(a:Int)(t:Tok)(c:Int)(u:Tok)(prog:aD)(w:aR)(E:ad->aj->Prop)(Q:ad->aj->Prop)(h:Q (.bool (decide (a<c))) s) :
  aH (aF prog w) A (richCompare .Lt (.int a t) (.int c u)) Q E s :=
 (PyProof.Rows.lt_int h:aH (aF prog w) A (cu .Lt (.int a t) (.int c u)) Q E s)
section
variable{prog:aD}{w:aR}{A:bi}{E:ad->aj->Prop}{s:aj}
theorem cat_tup{t b:Addr}{vs ws:List ad}{Q:ad->aj->Prop}(ht:IsTup s.heap t vs.toArray)(hb:IsTup s.heap b ws.toArray)(hv:vs≠[])
  (h1:ws=[]->Q (.ref t) s) (h2:ws≠[]->Q (.ref s.heap.objs.size) {s with heap:=s.heap.push {cls:=.type "tuple",data:=.seq (vs++ws).toArray}})
  (hsz:vs.length+ws.length<=sizeLine):aH (aF prog w) A (eC .Add (.ref t) (.ref b)) Q E s:=by
 obtain⟨⟨cls,dd,data,sl⟩,D,J,n,hd⟩:=id ht;obtain⟨⟨L,B,data2,i⟩,d,j,G,hd2⟩:=id hb;simp only at J hd j hd2;subst J hd j hd2;have e:vs.toArray++ws.toArray=(vs++ws).toArray:=by simp
 by_cases hw:ws=[]
 ·exact jT ⟨_,D,rfl⟩ ⟨_,d,rfl⟩ jy seq_tuple_add gH gA (f9 _ _)
   (tuple_addW1 t b vs.toArray ws.toArray n G dd B sl i (by simpa using hv) (by simp[hw])) ⟨D,d,h1 hw⟩
 ·refine jT ⟨_,D,rfl⟩ ⟨_,d,rfl⟩ jy seq_tuple_add gH gA (f9 _ _)
   (tuple_addW2 t b vs.toArray ws.toArray n G dd B sl i (by simpa using hv) (by simpa using hw) (by rw[aq,aq];exact hsz)) ⟨D,d,?_⟩
  rw[e];exact h2 hw
def sIx(n d:Nat):Option Int->Nat
 |none=>d
 |some v=>if v<0 then (v+(n:Int)).toNat else min v.toNat n
theorem sIx_none(n d:Nat):sIx n d none=d:=rfl
theorem sIx_nat(n d k:Nat):sIx n d (some (k:Int))=min k n:=by
 show(if (k:Int)<0 then ((k:Int)+(n:Int)).toNat else min (k:Int).toNat n)=min k n
 rw[if_neg (by omega),cL]
theorem sIx_le(n d:Nat)(hd:d<=n)(o:Option Int):sIx n d o<=n:=by
 cases o with
 |none=>exact hd
 |some v =>
  show(if v<0 then (v+(n:Int)).toNat else min v.toNat n)<=n
  by_cases i:v<0
  ·rw[if_pos i];omega
  ·rw[if_neg i];exact Nat.min_le_right _ _
theorem cXj(v:Int)(n d:Nat):(if v<0 then max (v+(n:Int)) 0 else min v (n:Int))=((sIx n d (some v):Nat):Int):=by
 show(if v<0 then max (v+(n:Int)) 0 else min v (n:Int))=(((if v<0 then (v+(n:Int)).toNat else min v.toNat n):Nat):Int)
 by_cases i:v<0
 ·simp only[if_pos i];omega
 ·simp only[if_neg i];omega
theorem cZr(lo hi:Option Int)(n:Nat):fX lo hi 1 (n:Int)=(((sIx n 0 lo:Nat):Int),((sIx n n hi:Nat):Int)):=by
 have h1:¬ ((1:Int)<0):=by omega
 unfold fX;simp only[h1,if_false];refine Prod.ext ?_ ?_
 ·cases lo with
  |none=>rfl
  |some v=>exact cXj v n 0
 ·cases hi with
  |none=>rfl
  |some v=>exact cXj v n n
theorem cZs(i j:Nat):eM (i:Int) (j:Int) 1=j-i:=by
 unfold eM;have h1:(1:Int)>0:=by omega
 simp only[h1,if_true,Int.ediv_one]
 split <;> omega
theorem bZ2{v:ad}{o:Option Int}{Q:Option Int->aj->Prop}(p:IsPart v o)(h:Q o s):aH (aF prog w) A (cI.Slice.slicePartIndex v) Q E s:=by
 cases p with
 |none=>exact slicePart_none h
 |int i t=>exact slicePart_int h
theorem sliceApplied_gen{sl:Addr}{vl vu:ad}{lo hi:Option Int}{n:Nat}{Q:Int×Int×Nat->aj->Prop}(hs:s.heap.IsSliceOf sl vl vu .none)(pl:IsPart vl lo)(pu:IsPart vu hi)
  (h:Q (((sIx n 0 lo:Nat):Int),1,sIx n n hi-sIx n 0 lo) s):aH (aF prog w) A (fJ (.ref sl) (pure (n:Int))) Q E s:=by
 obtain⟨os,d,j,i⟩:=id hs;unfold fJ cI.Slice.sliceFields;refine aa (aa (cR d i (x:=vl) rfl (aa (cR d i (x:=vu) rfl (aa (cR d i (x:=.none) rfl (af ?_)))))));refine aa (slicePart_none ?_);show aH _ _ (if ((1:Int)==0)=true then _ else _) _ _ s
 rw[if_neg (by decide)]
 refine aa (bZ2 pl (aa (bZ2 pu (aa (af ?_)))));show aH _ _ (match fX lo hi 1 (n:Int) with|(lo,hi)=>pure (lo,(1:Int),eM lo hi 1)) _ _ s
 rw[cZr lo hi n];show aH _ _ (pure (((sIx n 0 lo:Nat):Int),(1:Int),eM ((sIx n 0 lo:Nat):Int) ((sIx n n hi:Nat):Int) 1)) _ _ s;rw[cZs];exact af h
theorem dQz(xs:Array ad)(i k:Nat):((aI k).filterMap λ(m:Nat)=>xs[((i:Int)+(m:Int)*1).toNat]?).toArray=((xs.toList.drop i).take k).toArray:=by
 have e:(λ(m:Nat)=>xs[((i:Int)+(m:Int)*1).toNat]?)=λm=>xs[i+m]?:=by
  funext m
  have:((i:Int)+(m:Int)*1).toNat=i+m:=by omega
  rw[this]
 rw[e]
 have:=pick_run xs i k
 rw[List.filterMap_map] at this;have d:((λx=>xs[x]?)∘λx=>i+x)=λm=>xs[i+m]?:=rfl;rw[d] at this;rw[this]
theorem getItem_tuple_cut{t sl:Addr}{items:Array ad}{vl vu:ad}{lo hi:Option Int}{Q:ad->aj->Prop}(ht:IsTup s.heap t items)(hs:s.heap.IsSliceOf sl vl vu .none)(pl:IsPart vl lo)(pu:IsPart vu hi)
  (hw:¬ (sIx items.size 0 lo=0/\sIx items.size items.size hi=items.size))
  (h:Q (.ref s.heap.objs.size) {s with heap:=s.heap.push {cls:=.type "tuple",data:=.seq ((items.toList.drop (sIx items.size 0 lo)).take (sIx items.size items.size hi-sIx items.size 0 lo)).toArray}})
  (hsz:items.size<=sizeLine):aH (aF prog w) A (jU (.ref t) (.ref sl)) Q E s:=by
 have d:sizeOk (.seq ((items.toList.drop (sIx items.size 0 lo)).take (sIx items.size items.size hi-sIx items.size 0 lo)).toArray):=by
  show((items.toList.drop (sIx items.size 0 lo)).take (sIx items.size items.size hi-sIx items.size 0 lo)).toArray.size<=sizeLine;rw[aq,aK,bf,be];omega
 have O:sIx items.size items.size hi<=items.size:=sIx_le _ _ (Nat.le_refl _) hi;obtain⟨os,i,B,G⟩:=id hs;have D:s.TypeIs (.ref sl) "slice":=⟨os,i,B⟩;unfold jU
 try with_reducible refine bG ?_
 first|refine aa (af ?_)|skip
 refine aa (wpAny_sequenceKey ht.typeIs (by decide) ?_)
 refine aa (cj (name:=aP "__getitem__") ht.typeIs cF
  (b9 cF ht.typeIs entry_tuple_getitem ?_ (args_tuple_getitem _ _)))
 show aH _ _ (iQ (.ref t)>>=_) _ _ s;refine aa (tupleItemsOf_ ht ?_);refine aa (gI D ?_);rw[if_pos (by decide)]
 refine aa (sliceApplied_gen hs pl pu ?_);have j:¬ ((((sIx items.size 0 lo:Nat):Int)==0&&(1:Int)==1&&(sIx items.size items.size hi-sIx items.size 0 lo)==items.size)=true):=by
  intro q;rw[aL,aL] at q;have L:((sIx items.size 0 lo:Nat):Int)=0:=g9 q.1.1;have J:sIx items.size items.size hi-sIx items.size 0 lo=items.size:=g9 q.2;exact hw ⟨by omega,by omega⟩
 show aH _ _ (if (((sIx items.size 0 lo:Nat):Int)==0&&(1:Int)==1&&(sIx items.size items.size hi-sIx items.size 0 lo)==items.size)=true then _ else _) _ _ s
 rw[if_neg j,dQz]
 first
  |exact aa (m:=cE _) (bz (af ⟨_,rfl,af h⟩) d)
  |exact aa (m:=cE _) (bz (aa (af (af ⟨_,rfl,af h⟩))) d)
  |exact aa (aa (m:=cE _) (bz (af (af ⟨_,rfl,af h⟩)) d))
  |exact aa (aa (m:=cE _) (bz (af ⟨_,rfl,af h⟩) d))
end
end HT
namespace L2
open PySem PySem.Spec PyProof.Rows
abbrev TO:=St->Hp->(Option Int->Hp->Prop)->Prop
def PO(X:Cx)(e:Option Expr)(t:TO):Prop :=
 ∀(pins:List (Addr×Obj)) (s:aj) (σ:St) (H:Hp) (Q:Option Int->Hp->Prop),Inv X pins σ H s->t σ H Q ->
  aH (aF X.prog X.w) X.A (evalPart e X.env) (λu s'=>∃o H',Inv X pins σ H' s'/\IsPart u o/\Q o H') X.xe s
def eQh:TO:=λ_ H Q=>Q none H
def fJq(t:TE):TO:=fun σ H Q=>t σ H λx H1=>∃i,x=.int i/\Q (some i) H1
theorem bZ3{ns:List Int}:∀{us:List ad},Vals (ns.map V.int) us->iE us ns:=by
 induction ns with
 |nil=>intro us r;rw[fv] at r;cases r;exact .nil
 |cons n ns j =>
  intro us r;rw[bd] at r;cases r with
  |cons i d =>
   obtain⟨t,e⟩:=i;subst e;exact .cons n t (j d)
section
variable{X:Cx}{e:Expr}{te:TE}{lo hi:Option Expr}{tl th:TO}{pos p2:Pos}
theorem eQi:PO X none eQh:=by
 intro pins s σ H Q I h;rw[evalPart_none];exact af ⟨none,H,I,.none,h⟩
theorem eQj(h:PE X e te):PO X (some e) (fJq te):=by
 intro pins s σ H Q I hw;rw[evalPart_some];refine thn (h pins s σ H _ I hw) λu s1 ⟨x,H1,B,d,j⟩=>?_;obtain⟨i,rfl,q⟩:=j;obtain⟨t,rfl⟩:=d;exact⟨some i,H1,B,.int i t,q⟩
def SlR(X:Cx)(r:V->Option Int->Option Int->Hp->VK->Prop):Prop :=
 ∀(pins:List (Addr×Obj)) (s:aj) (σ:St) (H:Hp) (x:V) (v vl vu:ad) (lo hi:Option Int) (sl:Addr) (Q:VK),Inv X pins σ H s->RelV x v->s.heap.IsSliceOf sl vl vu .none->IsPart vl lo->IsPart vu hi->r x lo hi H Q ->
  ∃T id,typeLookup (.type T) "__getitem__"=pure (some (.builtin id))/\s.TypeIs v T/\aH (aF X.prog X.w) X.A (jU v (.ref sl)) (EP X pins σ Q) X.xe s
theorem SlR.or{r r':V->Option Int->Option Int->Hp->VK->Prop}(h:SlR X r)(h':SlR X r'):SlR X (λx lo hi H Q=>r x lo hi H Q\/r' x lo hi H Q):=by
 intro pins s σ H x v i d lo hi sl Q I j B pl pu q;rcases q with q|q
 ·exact h pins s σ H x v i d lo hi sl Q I j B pl pu q
 ·exact h' pins s σ H x v i d lo hi sl Q I j B pl pu q
def tSl(r:V->Option Int->Option Int->Hp->VK->Prop)(te:TE)(tl th:TO):TE:=fun σ H Q=>te σ H λx H1=>tl σ H1 λl H2=>th σ H2 λu H3=>r x l u H3 Q
theorem dZ0{r:V->Option Int->Option Int->Hp->VK->Prop}(hr:SlR X r)(he:PE X e te)(hl:PO X lo tl)(hu:PO X hi th):PE X (.Subscript e (.Slice lo hi none p2) pos) (tSl r te tl th):=by
 intro pins s σ H Q I h;refine Subscript_ (thn (he pins s σ H _ I h) λv s1 ⟨x,H1,I1,B,J⟩=>?_);refine wpAny_Slice (thn (hl pins s1 σ H1 _ I1 J) λi s2 ⟨l,H2,I2,pl,G⟩=>thn (hu pins s2 σ H2 _ I2 G) λd s3 ⟨u,j,Z,pu,D⟩=>?_);rw[evalPart_none];refine af ?_;have Y:Inv X pins σ j {s3 with heap:=s3.heap.push {cls:=.type "slice",data:=.fields #[i,d,.none]}}:=Z.kept (t':=s3.toks) λb ob q=>ah _ q
 obtain⟨T,id,U,L,O⟩:=hr pins {s3 with heap:=s3.heap.push {cls:=.type "slice",data:=.fields #[i,d,.none]}} σ j x v i d l u s3.heap.objs.size Q Y B (bj.IsSliceOf.new ..) pl pu D;show aH (aF X.prog X.w) X.A (subscriptTail e (.Slice lo hi none p2) v (.ref s3.heap.objs.size)) (EP X pins σ Q) X.xe {s3 with heap:=s3.heap.push {cls:=.type "slice",data:=.fields #[i,d,.none]}}
 exact tail_any (ops:=[.ref s3.heap.objs.size,v]) L U O (by with_unfolding_all rfl)
def cutV(xs:List V)(lo hi:Option Int):List V:=(xs.drop (HT.sIx xs.length 0 lo)).take (HT.sIx xs.length xs.length hi-HT.sIx xs.length 0 lo)
theorem bQ4(xs:List V)(lo hi:Option Int):(cutV xs lo hi).length<=xs.length:=by
 unfold cutV;rw[aK,bf];omega
def rSlT(K:ax):V->Option Int->Option Int->Hp->VK->Prop:=λx lo hi H Q=>∃a xs,x=.ref a/\SqT K H a xs /\
 ¬ (HT.sIx xs.length 0 lo=0/\HT.sIx xs.length xs.length hi=xs.length)/\∀p,H p=none->Q (.ref p) (upd H p (.tup (cutV xs lo hi)))
theorem fQi:SlR X (rSlT X.K):=by
 intro pins s σ H x v J G lo hi sl Q I rx D pl pu h;obtain⟨a,xs,rfl,B,hw,q⟩:=h;cases rx;obtain⟨d,r,j,i⟩:=I.tuple B;have hlen:d.toArray.size=xs.length:=by rw[aq];exact r.length.symm
 refine⟨"tuple",_,cF.lookup,j.typeIs,?_⟩;refine HT.getItem_tuple_cut j D pl pu (by rw[hlen];exact hw) ?_ (by rw[hlen];exact i)
 rw[hlen];refine⟨.ref s.heap.objs.size,_,I.laid (t':=s.toks) (o:=.tup (cutV xs lo hi)) (λb L q=>ah _ q) (Nat.le_refl _) ?_,rfl,q _ (I.hok.fresh (Nat.le_refl _))⟩;exact⟨Nat.le_trans (bQ4 xs lo hi) i,_,(r.drop (HT.sIx xs.length 0 lo)).take (HT.sIx xs.length xs.length hi-HT.sIx xs.length 0 lo),IsTup.new _ _,cQb⟩
def eQk(K:ax):R2:=λx y H Q=>∃a b xs ys,x=.ref a/\y=.ref b/\SqT K H a xs/\SqT K H b ys/\xs≠[]/\xs.length+ys.length<=sizeLine /\
 (ys=[]->Q (.ref a) H)/\(ys≠[]->∀p,H p=none->Q (.ref p) (upd H p (.tup (xs++ys))))
theorem Vals.nil_iff{xs:List V}{us:List ad}(r:Vals xs us):us=[]↔xs=[]:=by
 cases r with
 |nil=>simp
 |cons _ _=>simp
theorem eQl:OpR X (eC .Add) (eQk X.K):=by
 intro pins s σ H x y v u Q I rx ry h;obtain⟨a,b,xs,ys,rfl,rfl,Y,U,O,B,G,D⟩:=h;cases rx;cases ry;obtain⟨L,i,J,_⟩:=I.tuple Y;obtain⟨j,d,p2,_⟩:=I.tuple U;refine HT.cat_tup J p2 (λz=>O (i.nil_iff.mp z)) (λz=>⟨.ref a,H,I,rfl,G (d.nil_iff.mp z)⟩) (λz=>?_) (by rw[<- i.length,<- d.length];exact B)
 refine⟨.ref s.heap.objs.size,_,I.laid (t':=s.toks) (o:=.tup (xs++ys)) (λb Z q=>ah _ q) (Nat.le_refl _) ?_,rfl,D (λw=>z (d.nil_iff.mpr w)) _ (I.hok.fresh (Nat.le_refl _))⟩;exact⟨by rw[ar];exact B,_,i.append d,IsTup.new _ _,cQb⟩
end
def ixN(n:Nat)(i:Int):Option Nat:=if 0<=i then (if i<n then some i.toNat else none) else if -(n:Int)<=i then some (i+n).toNat else none
def atI{α:Type}(xs:List α)(i:Int):Option α:=(ixN xs.length i).bind λj=>xs[j]?
theorem bJd{n:Nat}{i:Int}{j:Nat}(h:ixN n i=some j):seqIndex? i n=some j/\j<n/\-(n:Int)<=i/\i<n:=by
 unfold ixN at h
 by_cases h0:0<=i
 ·rw[if_pos h0] at h
  by_cases h1:i<n
  ·rw[if_pos h1] at h;have e:i.toNat=j:=aN h;exact⟨by rw[seqIndex_of h0 h1,e],by omega,by omega,h1⟩
  ·rw[if_neg h1] at h;cases h
 ·rw[if_neg h0] at h
  by_cases h1:-(n:Int)<=i
  ·rw[if_pos h1] at h;have e:(i+n).toNat=j:=aN h;exact⟨by rw[seqIndex_neg (by omega) h1,e],by omega,h1,by omega⟩
  ·rw[if_neg h1] at h;cases h
theorem bJe{α:Type}{xs:List α}{i:Int}{v:α}(h:atI xs i=some v):∃j,seqIndex? i xs.length=some j/\xs[j]?=some v/\j<xs.length/\-(xs.length:Int)<=i/\i<xs.length:=by
 unfold atI at h;cases e:ixN xs.length i with
 |none=>rw[e] at h;cases h
 |some j =>
  rw[e] at h;obtain⟨h1,h2,B,d⟩:=bJd e;exact⟨j,h1,h,h2,B,d⟩
theorem bQ5{α:Type}{xs:List α}{j:Nat}{v:α}(h:xs[j]?=some v):atI xs (j:Int)=some v:=by
 have d:j<xs.length:=(ay.mp h).1;have e:ixN xs.length (j:Int)=some j:=by
  unfold ixN;rw[if_pos (by omega),if_pos (by omega)];simp
 unfold atI;rw[e];exact h
def PlainIx(b:Expr):Prop:=∀o i,subscripted b false o i=operate [o,i] (jU o i)
def IxR(X:Cx)(r:R2):Prop :=
 ∀(value slice:Expr) (pins:List (Addr×Obj)) (s:aj) (σ:St) (H:Hp) (x y:V) (v u:ad) (Q:VK),Inv X pins σ H s->RelV x v->RelV y u->r x y H Q ->
  subscripted slice false v u=operate [v,u] (jU v u)->aH (aF X.prog X.w) X.A (subscriptTail value slice v u) (EP X pins σ Q) X.xe s
def MtR(X:Cx)(id:String)(r:V->List V->Hp->VK->Prop):Prop :=
 ∀(pins:List (Addr×Obj)) (s:aj) (σ:St) (H:Hp) (x:V) (xs:List V) (v:ad) (us:List ad) (Q:VK),Inv X pins σ H s->RelV x v->Vals xs us->r x xs H Q ->
  aH (aF X.prog X.w) X.A (call (.builtin id) (v::us)) (EP X pins σ Q) X.xe s
section
variable{X:Cx}{a b:Expr}{ta tb:TE}{pos:Pos}
theorem IxR.or{r r':R2}(h:IxR X r)(h':IxR X r'):IxR X (λx y H Q=>r x y H Q\/r' x y H Q):=by
 intro value slice pins s σ H x y v u Q I i d q j;rcases q with q|q
 ·exact h value slice pins s σ H x y v u Q I i d q j
 ·exact h' value slice pins s σ H x y v u Q I i d q j
theorem pe_ix{r:R2}(hr:IxR X r)(ha:PE X a ta)(hb:PE X b tb)(hs:PlainIx b):PE X (.Subscript a b pos) (tOp r ta tb):=by
 intro pins s σ H Q I h;exact Subscript_ (binT ha hb I h λv u s2 x y H2 j i d q=>hr a b pins s2 σ H2 x y v u Q j i d q (hs _ _))
def rIxL(K:ax):R2:=λx y H Q=>∃p xs i v,x=.ref p/\y=.int i/\SqL K H p xs/\atI xs i=some v/\Q v H
def rIxT(K:ax):R2:=λx y H Q=>∃p xs i v,x=.ref p/\y=.int i/\SqT K H p xs/\atI xs i=some v/\Q v H
def rIxS:R2:=λx y H Q=>∃z i c,x=.str z/\y=.int i/\z.length<=sizeLine/\atI z.cps.toList i=some c/\Q (.str ⟨#[c]⟩) H
theorem ix_list:IxR X (rIxL X.K):=by
 intro value slice pins s σ H x y v u Q I rx L h G;obtain⟨p,xs,i,z,rfl,rfl,O,he,q⟩:=h;cases rx;obtain⟨t,rfl⟩:=L;obtain⟨B,r,pl,Z⟩:=I.list O;obtain⟨j,h1,h2,h3,Y,U⟩:=bJe he;obtain⟨w,J,d⟩:=r.get h2;have hl:=r.length;have hn:=bQ3;have fin:EP X pins σ Q w s:=⟨z,H,I,d,q⟩
 by_cases h0:0<=i
 ·have D:i.toNat=j:=by
   rw[seqIndex_of h0 U] at h1;exact aN h1
  exact item_listR pl.isList h0 (by omega) (by rw[D];simpa using J) fin G
 ·have D:(i+(B.toArray.size:Int)).toNat=j:=by
   rw[seqIndex_neg (by omega) Y] at h1
   rw[aq,<- hl];exact aN h1
  exact subscriptTail_builtinR (x:=w) pl.isList.typeIs slot_list_getitem.lookup
   (wpAny_getItem_list_neg (Q:=λr s'=>r=w/\EP X pins σ Q r s') pl.isList (by omega) (by rw[aq] <;> omega) (by omega) (by rw[D];simpa using J) ⟨rfl,fin⟩) G
theorem ix_tup:IxR X (rIxT X.K):=by
 intro value slice pins s σ H x y v u Q I rx B h G;obtain⟨p,xs,i,z,rfl,rfl,J,he,q⟩:=h;cases rx;obtain⟨t,rfl⟩:=B;obtain⟨D,r,pl,O⟩:=I.tuple J;obtain⟨j,h1,h2,h3,Z,Y⟩:=bJe he;obtain⟨w,L,d⟩:=r.get h2;have hl:=r.length;have U:=bQ3;have fin:EP X pins σ Q w s:=⟨z,H,I,d,q⟩;exact subscriptTail_builtinR (x:=w) pl.typeIs slot_tuple_getitem.lookup
  (getItem_tuple (j:=j) (Q:=λr s'=>r=w/\EP X pins σ Q r s') pl (by omega) (by omega) (by rw[aq,<- hl];exact h1) (by simpa using L) ⟨rfl,fin⟩) G
theorem fQj:IxR X rIxS:=by
 intro value slice pins s σ H x y v u Q I B d h D;obtain⟨z,i,c,rfl,rfl,Y,he,q⟩:=h;obtain⟨t,rfl⟩:=B;obtain⟨U,rfl⟩:=d;obtain⟨j,h1,h2,h3,J,G⟩:=bJe he;have hl:z.cps.toList.length=z.length:=by simp[Str.length]
 rw[hl] at h1 J G;have Z:=bQ3;exact tail_any (typeIs_str s z t) slot_str_getitem.lookup (getItem_str (c:=c) (by
  have O:decide (i < -(2^63:Int))=false:=decide_eq_false (by omega)
  have L:decide (i>=2^63)=false:=decide_eq_false (by omega)
  rw[O,L,Bool.or_false]) (by rw[h1];simpa using h2) ⟨.str ⟨#[c]⟩,H,I.tok _,⟨_,rfl⟩,q⟩) D
def rIx(K:ax):R2:=λx y H Q=>rIxL K x y H Q\/rIxT K x y H Q\/rIxS x y H Q
theorem fQk:IxR X (rIx X.K):=ix_list.or (ix_tup.or fQj)
theorem cZt(its:List ad)(n j:Nat)(u:ad):bO (·.setIfInBounds j u) {cls:=.type "list",data:=.seq its.toArray n}={cls:=.type "list",data:=.seq (its.set j u).toArray n}:=by
 simp[bO]
theorem Inv.lst{pins:List (Addr×Obj)}{σ:St}{H:Hp}{s:aj}{p:Addr}{xs:List V}(I:Inv X pins σ H s)(h:H p=some (.lst xs)) :
  ∃(its:List ad) (n:Nat),Vals xs its/\s.heap.get? p=some {cls:=.type "list",data:=.seq its.toArray n}/\xs.length<=sizeLine:=by
 obtain⟨z,its,n,r,e⟩:=I.hok p _ h;exact⟨its,n,r,e,z⟩
theorem Inv.lstUpd{pins:List (Addr×Obj)}{σ:St}{H:Hp}{s:aj}{p:Addr}{xs ys:List V}{its its':List ad}{n n':Nat}{f:Obj->Obj}(I:Inv X pins σ H s)(h:H p=some (.lst xs))
  (ho:s.heap.get? p=some {cls:=.type "list",data:=.seq its.toArray n}) (hf:f {cls:=.type "list",data:=.seq its.toArray n}={cls:=.type "list",data:=.seq its'.toArray n'}) (r:Vals ys its') (hz:ys.length<=sizeLine) (t:Nat) :
  Inv X pins σ (upd H p (.lst ys)) {s with heap:=s.heap.update p f,toks:=t}:=by
 have e:(s.heap.update p f).get? p=some {cls:=.type "list",data:=.seq its'.toArray n'}:=by
  rw[cG f ho (by rw[hf] <;> rfl),hf]
 refine I.write (x:=p) (e:=p) (by rw[h];trivial) (.inl rfl) (λb u d q=>(bE _ _ (cv d)).trans q) ⟨_,e⟩ ?_
 exact⟨hz,its',n',r,e⟩
def fJr:V->V->V->Hp->(Hp->Prop)->Prop:=λo i v H Q=>∃p xs k j,o=.ref p/\i=.int k/\H p=some (.lst xs)/\ixN xs.length k=some j/\Q (upd H p (.lst (xs.set j v)))
theorem dZ1:PSet X fJr:=by
 intro pins s σ H o i v ov iv u Q I ro Y U h;obtain⟨p,xs,k,j,rfl,rfl,G,hj,q⟩:=h;cases ro;obtain⟨t,rfl⟩:=Y;obtain⟨d,n,r,B,Z⟩:=I.lst G;obtain⟨h1,h2,L,J⟩:=bJd hj;have hl:=r.length;have hn:=bQ3;have O:Inv X pins σ (upd H p (.lst (xs.set j v))) {s with heap:=s.heap.update p (bO (·.setIfInBounds j u))} :=
  I.lstUpd G B (cZt d n j u) (r.set U j) (by rw[List.length_set];exact Z) s.toks
 by_cases h0:0<=k
 ·have D:k.toNat=j:=by
   rw[seqIndex_of h0 J] at h1;exact aN h1
  exact PySem.W.ki_setAt B h0 (by omega) (by rw[aq,<- hl];exact J) (by rw[D];exact⟨_,O,q⟩)
 ·have D:(k+(d.toArray.size:Int)).toNat=j:=by
   rw[seqIndex_neg (by omega) L] at h1
   rw[aq,<- hl];exact aN h1
  exact PySem.W.ki_setBack B (by omega) (by rw[aq,<- hl];exact L) (by omega) (by rw[D];exact⟨_,O,q⟩)
theorem aJn(lo hi:Option Int)(n:Nat):(fk lo hi none n).1=((HT.sIx n 0 lo:Nat):Int)/\(fk lo hi none n).2.1=((HT.sIx n n hi:Nat):Int)/\(fk lo hi none n).2.2=1:=by
 refine⟨?_,?_,rfl⟩
 ·cases lo with
  |none=>simp[fk,HT.sIx]
  |some i =>
   simp only[fk,HT.sIx,jz,show(1:Int)>0 by decide,if_true]
   by_cases h:i<0
   ·simp only[h,if_true] <;> omega
   ·simp only[h,if_false] <;> omega
 ·cases hi with
  |none=>simp[fk,HT.sIx]
  |some i =>
   simp only[fk,HT.sIx,jz,show(1:Int)>0 by decide,if_true]
   by_cases h:i<0
   ·simp only[h,if_true] <;> omega
   ·simp only[h,if_false] <;> omega
theorem bZf(its:List ad)(lo hi:Option Int):slicePick its.toArray lo hi none=((its.drop (HT.sIx its.length 0 lo)).take (HT.sIx its.length its.length hi-HT.sIx its.length 0 lo)).toArray:=by
 obtain⟨h1,h2,d⟩:=aJn lo hi its.toArray.size;unfold slicePick;rw[h1,h2,d];simp only[sliceRange_one,pick_run,aq] <;> rfl
def rSlL(K:ax):V->Option Int->Option Int->Hp->VK->Prop:=λx lo hi H Q=>∃a xs,x=.ref a/\SqL K H a xs/\∀p,H p=none->Q (.ref p) (upd H p (.lst (cutV xs lo hi)))
theorem eQm:SlR X (rSlL X.K):=by
 intro pins s σ H x v J G lo hi sl Q I rx D pl pu h;obtain⟨a,xs,rfl,B,q⟩:=h;cases rx;obtain⟨i,r,d,j⟩:=I.list B;have hlen:=r.length;refine⟨"list",_,slot_list_getitem.lookup,d.isList.typeIs,?_⟩;refine wpAny_getItem_list_slice d.isList D pl pu .none (by simp) ?_ (by rw[aq] <;> omega)
 rw[bZf,<- hlen];refine⟨.ref s.heap.objs.size,_,I.laid (t':=s.toks) (o:=.lst (cutV xs lo hi)) (λb L q=>ah _ q) (Nat.le_refl _) ?_,rfl,q _ (I.hok.fresh (Nat.le_refl _))⟩;exact⟨Nat.le_trans (bQ4 xs lo hi) j,_,0,(r.drop (HT.sIx xs.length 0 lo)).take (HT.sIx xs.length xs.length hi-HT.sIx xs.length 0 lo),av _ rfl⟩
theorem CallR.or{f:ad}{r r':List V->Hp->VK->Prop}(h:CallR X f r)(h':CallR X f r'):CallR X f (λxs H Q=>r xs H Q\/r' xs H Q):=by
 intro pins s σ H xs us Q I rs q;rcases q with q|q
 ·exact h pins s σ H xs us Q I rs q
 ·exact h' pins s σ H xs us Q I rs q
theorem call_tuple_of:CallR X (.type "tuple") (λxs H Q=>∃p ys,xs=[.ref p]/\((SqL X.K H p ys/\∀l,H l=none->Q (.ref l) (upd H l (.tup ys)))\/(SqT X.K H p ys/\Q (.ref p) H))):=by
 intro pins s σ H xs us Q I r h;obtain⟨p,ys,rfl,h⟩:=h;obtain⟨u,rfl,rx⟩:=aX9 r;cases rx;rcases h with⟨j,q⟩|⟨j,q⟩
 ·obtain⟨d,i,pl,B⟩:=I.list j;have hlen:=i.length;refine call_tuple_list pl.isList (λh' kp=>?_) (by simp only[aq] <;> omega)
  have D:Inv X pins σ H {s with heap:=h'}:=I.kept (t':=s.toks) kp
  have G:Inv X pins σ (upd H h'.objs.size (.tup ys)) {s with heap:=h'.push {cls:=.type "tuple",data:=.seq d.toArray}} :=
   D.laid (t':=s.toks) (λb o e=>ah _ e) (Nat.le_refl _) (show ObjOk X.prog X.w _ _ _ (.tup ys) from⟨B,d,i,IsTup.new _ _,cQb⟩)
  exact⟨.ref h'.objs.size,_,G,rfl,q _ (D.hok.fresh (Nat.le_refl _))⟩
 ·obtain⟨d,i,pl,B⟩:=I.tuple j;exact call_tuple_same pl ⟨.ref p,H,I,rfl,q⟩
def tyV(K:ax)(T:String)(x:V)(H:Hp):Prop:=match x with
 |.str _=>T="str"
 |.int _=>T="int"
 |.ref p=>(T="list"/\∃xs,SqL K H p xs)\/(T="tuple"/\∃o,K.lookup p=some o/\o.cls=.type "tuple"/\o.dict=none) \/
   (T="dict"/\((∃kvs,H p=some (.dK kvs))\/∃kvs,H p=some (.dT kvs)))\/(T="set"/\∃S n,H p=some (.set S n))
 |_=>False
theorem fQl{pins:List (Addr×Obj)}{σ:St}{H:Hp}{s:aj}{T:String}{x:V}{v:ad}(I:Inv X pins σ H s)(r:RelV x v)(ty:tyV X.K T x H) :
  s.TypeIs v T/\∀a,v=.ref a->∃ob,s.heap.get? a=some ob/\ob.dict=none:=by
 cases x with
 |str z =>
  obtain⟨t,rfl⟩:=r;cases (show T="str" from ty)
  exact⟨typeIs_str s z t,λ_ e=>nomatch e⟩
 |int i =>
  obtain⟨t,rfl⟩:=r;cases (show T="int" from ty)
  exact⟨typeIs_int s i t,λ_ e=>nomatch e⟩
 |ref p =>
  cases r;rcases ty with⟨rfl,xs,D⟩|⟨rfl,o,d,G,hd⟩|⟨rfl,d⟩|⟨rfl,S,n,d⟩
  ·obtain⟨B,_,pl,_⟩:=I.list D;refine⟨pl.isList.typeIs,λa e=>?_⟩;cases e;obtain⟨o,n,e,c,hd,_⟩:=pl;exact⟨o,e,hd⟩
  ·refine⟨⟨o,I.kIn p o d,G⟩,λa e=>?_⟩;cases e;exact⟨o,I.kIn _ o d,hd⟩
  ·have z:∃o,s.heap.get? p=some o/\o.ExactDict:=by
    rcases d with⟨j,d⟩|⟨j,d⟩
    ·obtain⟨_,_,_,_,o,_,_,e,ex,_⟩:=I.hok p _ d;exact⟨o,e,ex⟩
    ·obtain⟨_,_,_,_,o,_,_,e,ex,_⟩:=I.hok p _ d;exact⟨o,e,ex⟩
   obtain⟨o,e,ex⟩:=z;refine⟨⟨o,e,ex.1⟩,λa e2=>?_⟩;cases e2;exact⟨o,e,ex.2.1⟩
  ·obtain⟨o,_,_,_,e,ex,_⟩:=I.hok p _ d;refine⟨⟨o,e,ex.1⟩,λa e2=>?_⟩;cases e2;exact⟨o,e,ex.2.1⟩
 |_=>exact eB ty
def tBM(K:ax)(T:String)(r:V->List V->Hp->VK->Prop)(to:TE)(t:TA):TE:=fun σ H Q=>to σ H λx H1=>tyV K T x H1/\t σ H1 λxs H2=>r x xs H2 Q
variable{o e:Expr}{es:List Expr}{to:TE}{t:TA}{name:Str}{apos cpos:Pos}{T id:String}{r:V->List V->Hp->VK->Prop}
theorem fJs(pa:PlainAttrs T)(slot:Slot T name id)(hty:typeOf (.builtin id)=pure (.type "method_descriptor"))(hm:MtR X id r)(ho:PE X o to)(ha:PA X (e::es) t)
  (hbase:gb o name X.env (eval o X.env)=eval o X.env:=by rfl)
  (hfew:((cD cpos (au (e::es) X.env)).all (λx=>!x.1) && (iR cpos (fK [] X.env)).all (λx=>x.1.isSome)
   && decide ((e::es).length+([]:List gJ).length+(if ([]:List gJ).isEmpty then 0 else 1)<30))=true:=by rfl)
  (hline:(apos.endLine==cpos.line)=true:=by rfl) (hs:au (e::es) X.env=(false,eval e X.env)::au es X.env:=by rfl) (hplain:(cD cpos (au es X.env)).any (·.1)=false:=by rfl) :
  PE X (.Call (.Attribute o name apos) (e::es) [] cpos) (tBM X.K T r to t):=by
 intro pins s σ H Q I h;refine wpAny_Call_method_late hbase hfew hline rfl (thn (ho pins s σ H _ I h) λv s1 ⟨x,H1,j,d,ty,G⟩=>?_);obtain⟨h1,h2⟩:=fQl j d ty;refine⟨T,id,pa,slot,hty,h1,h2,?_⟩;have i:=ha cpos pins s1 σ H1 _ j G;rw[hs] at i ⊢;refine Calls.callWith_builtin (by show(false||(cD cpos (au es X.env)).any (·.1))=false;rw[hplain] <;> rfl) (Calls.evalArgs_plain ?_)
 exact thn i λus s2 ⟨vs,H2,J,B,D⟩=>hm pins s2 σ H2 x vs v us Q J d B D
end
def MtM(X:Cx)(id:String)(r:V->List V->Hp->VK->Prop):Prop :=
 ∀(pins:List (Addr×Obj)) (s:aj) (σ:St) (H:Hp) (x:V) (xs:List V) (v:ad) (us:List ad) (Q:VK),Inv X pins σ H s->RelV x v->Vals xs us->r x xs H Q ->
  aH (aF X.prog X.w) X.A (call (.builtin id) (v::us)) (EP X pins σ Q) X.xe s
theorem Vals.one:∀{x:V}{us:List ad},Vals [x] us->∃u,us=[u]/\RelV x u:=by
 intro x us h;cases h with
 |cons r t=>cases t;exact⟨_,rfl,r⟩
theorem Vals.two:∀{x y:V}{us:List ad},Vals [x,y] us->∃u v,us=[u,v]/\RelV x u/\RelV y v:=by
 intro x y us h;cases h with
 |cons r t =>
  cases t with
  |cons q t=>cases t;exact⟨_,_,rfl,r,q⟩
theorem Vals.eraseIdx:∀{xs:List V}{us:List ad}(i:Nat),Vals xs us->Vals (xs.eraseIdx i) (us.eraseIdx i)
 |_,_,_,.nil=>.nil
 |_,_,0,.cons _ t=>t
 |_,_,i+1,.cons r t=>.cons r (Vals.eraseIdx i t)
theorem bXg{α:Type}:∀(l:List α) (i:Nat),(l.eraseIdx i).length<=l.length
 |[],_=>Nat.le_refl _
 |_::_,0=>Nat.le_succ _
 |_::r,i+1=>Nat.succ_le_succ (bXg r i)
section
variable{X:Cx}{pins:List (Addr×Obj)}{σ:St}{H:Hp}{s:aj}{l b:Addr}{xs ys zs:List V}
theorem Inv.lset{its its':List ad}{n:Nat}{f:Array ad->Array ad}{t':Nat}(I:Inv X pins σ H s)(hH:H l=some (.lst xs))
  (e:s.heap.get? l=some {cls:=.type "list",data:=.seq its.toArray n}) (hf:f its.toArray=its'.toArray) (hv:Vals ys its') (hz:ys.length<=sizeLine) :
  Inv X pins σ (upd H l (.lst ys)) {s with heap:=s.heap.update l (bO f),toks:=t'}:=by
 have q:=PySem.IsL.update e f;rw[hf] at q;refine I.write (x:=l) (e:=l) (by rw[hH];exact trivial) (.inl rfl) (λj u i d=>(bE s.heap (bO f) (cv i)).trans d) ⟨_,q⟩ ?_
 exact⟨hz,its',_,hv,q⟩
theorem Inv.lnew{its:List ad}{t':Nat}(I:Inv X pins σ H s)(hv:Vals ys its)(hz:ys.length<=sizeLine) :
  Inv X pins σ (upd H s.heap.objs.size (.lst ys)) {s with heap:=s.heap.push {cls:=.type "list",data:=.seq its.toArray},toks:=t'} :=
 I.laid (λ_ _ q=>ah _ q) (Nat.le_refl _) ⟨hz,its,0,hv,av _ rfl⟩
theorem Inv.fresh(I:Inv X pins σ H s):H s.heap.objs.size=none:=I.hok.fresh (Nat.le_refl _)
theorem Inv.lstM(I:Inv X pins σ H s)(hH:H l=some (.lst xs)):xs.length<=sizeLine/\∃(its:List ad) (n:Nat),Vals xs its/\xs.length=its.length/\s.heap.get? l=some {cls:=.type "list",data:=.seq its.toArray n}:=by
 obtain⟨z,its,n,r,e⟩:=I.hok l _ hH;exact⟨z,its,n,r,r.length,e⟩
theorem dZ2{n:Nat}(h:n<=sizeLine):gc n=false:=by
 unfold gc;exact decide_eq_false (by omega)
end
section
variable{X:Cx}
def cXk:V->List V->Hp->VK->Prop:=λx vs H Q=>∃l xs y,x=.ref l/\vs=[y]/\H l=some (.lst xs)/\xs.length<sizeLine/\Q .non (upd H l (.lst (xs++[y])))
theorem bXh:MtM X "list.append" cXk:=by
 intro pins s σ H x vs v us Q I rx j h;obtain⟨l,xs,y,rfl,rfl,i,D,q⟩:=h;cases rx;obtain⟨u,rfl,B⟩:=j.one;obtain⟨z,d,n,r,hl,e⟩:=I.lstM i;refine call_meets F.slot_list_append ⟨_,e,rfl⟩ F.entry_list_append (F.args_list_append_2 _ _) (PySem.list_append l d.toArray n u (by rw[aq];omega)) ⟨e,?_⟩
 refine⟨.non,_,I.lset (its':=d++[u]) i e (by simp) (r.append (.cons B .nil)) ?_,rfl,q⟩
 rw[ar,dW];omega
def cXl:V->List V->Hp->VK->Prop:=λx vs H Q=>∃l b xs zs,x=.ref l/\vs=[.ref b]/\H l=some (.lst xs)/\H b=some (.lst zs)/\xs.length+zs.length<=sizeLine/\Q .non (upd H l (.lst (xs++zs)))
theorem cXm:MtM X "list.extend" cXl:=by
 intro pins s σ H x vs v us Q I rx G h;obtain⟨l,b,xs,zs,rfl,rfl,D,U,hz,q⟩:=h;cases rx;obtain⟨u,rfl,ru⟩:=G.one;cases ru;obtain⟨z,i,n,r,hl,e⟩:=I.lstM D;obtain⟨Z,d,L,J,O,Y⟩:=I.lstM U;have B:i.toArray.size+d.toArray.size<=sizeLine:=by rw[aq,aq];omega
 have j:¬ (!i.toArray.isEmpty&&gc (i.toArray.size+d.toArray.size))=true:=by
  rw[dZ2 B,iS];exact ce
 refine call_meets F.slot_list_extend ⟨_,e,rfl⟩ F.entry_list_extend (F.args_list_extend_2 _ _)
  (AutoSeq1.list_extend_list_list_0 l i.toArray n b d.toArray L j (by rw[aq];omega) (by omega)) ⟨e,Y,?_⟩
 refine⟨.non,_,I.lset (its':=i++d) D e (by simp) (r.append J) ?_,rfl,q⟩
 rw[ar];omega
def dXu:V->List V->Hp->VK->Prop:=λx vs H Q=>∃l xs i k y,x=.ref l/\vs=[.int i]/\H l=some (.lst xs)/\-(2^63)<=i/\i<2^63/\seqIndex? i xs.length=some k/\xs[k]?=some y/\Q y (upd H l (.lst (xs.eraseIdx k)))
theorem dZ3:MtM X "list.pop" dXu:=by
 intro pins s σ H x vs v us Q I rx D h;obtain⟨l,xs,i,k,y,rfl,rfl,B,h1,h2,L,J,q⟩:=h;cases rx;obtain⟨u,rfl,G⟩:=D.one;obtain⟨t,rfl⟩:=G;obtain⟨z,d,n,r,hl,e⟩:=I.lstM B;obtain⟨w,hw,j⟩:=r.get J;refine call_meets F.slot_list_pop ⟨_,e,rfl⟩ F.entry_list_pop (F.args_list_pop_2 _ _)
  (MeetsSeq.list_pop_at l d.toArray n i t k w (fitsIndex_both h1 h2) (by rw[aq,<- hl];exact L) (by rw[<- a7];exact hw) (by rw[aq];omega)) ⟨e,?_⟩
 refine⟨y,_,I.lset (its':=d.eraseIdx k) B e ?_ (r.eraseIdx k) ?_,j,q⟩
 ·show d.toArray.eraseIdxIfInBounds k=(d.eraseIdx k).toArray;rw[List.eraseIdxIfInBounds_toArray]
 ·have:=bXg xs k
  omega
end
section
variable{prog:aD}{w:aR}{A:bi}{E:ad->aj->Prop}{s:aj}
set_option maxRecDepth 100000 in
end
end L2
namespace Att
open PySem PySem.W PySem.Calls PyProof.Rows
theorem bQ6{P:Params}{h:bj}:∀(ns:List Int) (vs:List ad),WellAll P h vs (ns.map WData.int)->iE vs ns:=by
 intro ns
 induction ns with
 |nil =>
  intro vs w;rw[fv] at w;cases w;exact .nil
 |cons n ns d =>
  intro vs w;rw[bd] at w;cases w with
  |cons a b =>
   cases a;exact .cons _ _ (d _ b)
theorem cXn{l:OpenLaw}{n:Nat}(hn:l.most=some n){P:Params}{h:bj}{args:List WData}{vals:List ad}
  (hpre:l.row.toRowW.claim.pre args=true) (hwl:WellAll P h vals args) :
  ∃a vs ns,vals=[dZ a]/\args=[WData.list (ns.map WData.int)]/\h.get? a=some {cls:=.type "list",data:=.seq vs.toArray}/\iE vs ns/\ns.length<=n:=by
 have D:WShape.hasAll [] args [.list .int]=true:=(pre_splitW hpre).1;have G:l.pre.holds [] {args:=args}=true:=(pre_splitW hpre).2;obtain⟨d,r,rfl,h1,h2⟩:=hasAllW_cons D;obtain rfl:=hasAllW_nil h2;obtain⟨xs,rfl,O⟩:=hasW_list h1;obtain⟨ns,rfl⟩:=items_int O;have hlen:ns.length<=n:=by
  unfold OpenLaw.pre at G;have B:(WTm.not (.lt (.lit (.int (n:Int))) (.len (.arg 0)))).holds [] {args:=[.list (ns.map .int)]}=true:=by
   have B:=(holds_andW G).1;rw[hn] at B;exact B
  have j:=condW_of B (w_not (w_lt w_lit (w_len_list (w_arg rfl))));rw[ae] at j;refine Nat.le_of_not_lt λq=>?_;have J:(n:Int)<((ns.length:Nat):Int):=by omega
  first
   |(rw[decide_eq_true J] at j;exact absurd j (by decide))
   |(simp at j;omega)
 cases hwl with
 |cons w1 w2 =>
  cases w2;cases w1 with
  |list L i=>exact⟨_,_,ns,rfl,rfl,L,bQ6 ns _ i,hlen⟩
theorem cXo(l:OpenLaw)(args:List WData):l.row.toRowW.claim.post args (.bool true) args=true :=
 postW_of (r:=l.row.toRowW) (X:=(true==true))
  (show WShape.has [] (.bool true) .bool=true by first|rfl|decide|simp[WShape.has,WShape.arms,WShape.armsAll])
  (show(WTm.eq .res (.lit (.bool true))).value [] {args:=args,res:=some (.bool true),after:=args}=some (.bool (true==true)) from w_eq_bool (w_res rfl) w_lit) rfl
end Att
namespace L2
open PySem PySem.Spec PyProof.Rows
theorem bQ7:∀{vs:List ad}{ns:List Int},iE vs ns->Vals (ns.map V.int) vs
 |_,_,.nil=>.nil
 |_,_,.cons n t h=>.cons ⟨t,rfl⟩ (bQ7 h)
def Only(H:Hp):Prop:=∀b,H b=none\/∃o xs,H b=some (.frz o (.lst xs))
theorem dZ4{P:aD}{w:aR}{K:ax}{mg mb:Str->Option ad}{CX:CXT}{k:Nat}{fa a:Addr}{fd:d8}{x:Str}{sp:Sp}{s₁:aj}{vs:List ad}{ns:List Int}
  (KX:K.In s₁.heap) (hns:s₁.heap.Ns bq mg) (hb:s₁.heap.Ns builtinsNs mb) (hbb:∀x:Str,x ≠ "__name__"->mb x=bH x) (hlim:s₁.heap.NoLimit) (hg:s₁.gens=#[])
  (ha:s₁.heap.get? a=some {cls:=.type "list",data:=.seq vs.toArray}) (hi:iE vs ns) (hl:ns.length<=sizeLine) (hr:Room k callerA)
  (F:∀base:bj,K.In base->base.Ns bq mg->FnOk P w K mg base CX k fa fd [x] sp) (hbind:∀(s:aj) (u:ad),BindsTo s fd ⟨[u],[]⟩ [(x,u)])
  (hsp:∀H:Hp,Only H->SqL K H a (ns.map V.int)->sp [.ref a] H (λv _=>v=.bl true) λ_ _ _=>False)
  (hCX:∀H e s',CX [] H s₁ (λ_ _ _=>False) e s'->False) :
  fu (aF P w) callerA (.call (.ref fa) ⟨[.ref a],[]⟩) (λr s'=>r=.ok (.ret (.bool true))/\OldK s₁.heap s'.heap/\s'.os=s₁.os/\jf s'.gens) s₁:=by
 have O:=bQ7 hi;have B:=hi.length;have core:∀H:Hp,Only H->SqL K H a (ns.map V.int)->HOk P w H s₁.heap->(∀b,H b≠none->b=a)->(H a≠none->K.lookup a=none) ->
   fu (aF P w) callerA (.call (.ref fa) ⟨[.ref a],[]⟩) (λr s'=>r=.ok (.ret (.bool true))/\OldK s₁.heap s'.heap/\s'.os=s₁.os/\jf s'.gens) s₁:=by
  intro H U hS hok Y hK;have i:∀{b:Addr}{o:Obj},s₁.heap.get? b=some o->H b=none->(hidT s₁.heap H).get? b=some o:=λe n=>dQu e n;have J:∀{b:Addr}{o:Obj}{es:Array DictEntry}{ep:Nat},s₁.heap.get? b=some o->o.data=.dict es ep->H b=none:=λ{b o es ep} e d=>by
   cases q:H b with
   |none=>rfl
   |some u =>
    have L:b=a:=Y b (by rw[q];simp)
    subst L;rw[ha] at e;cases e;have d':Data.seq vs.toArray _=Data.dict es ep:=d;cases d'
  have j:∀ {b:Addr} {m:Str->Option ad},s₁.heap.Ns b m->(hidT s₁.heap H).Ns b m:=λ{b m} ⟨o,es,ep,e,d,r⟩=>⟨o,es,ep,i e (J e d),d,r⟩;have G:K.In (hidT s₁.heap H):=λb o e=>i (KX b o e) (by
   cases q:H b with
   |none=>rfl
   |some u =>
    have L:b=a:=Y b (by rw[q];simp)
    subst L;rw[hK (by rw[q];simp)] at e;cases e)
  have hM:Mod K mg (hidT s₁.heap H):=⟨G,j hns,⟨mb,j hb,hbb⟩,let ⟨mc,h1,h2⟩:=hlim;⟨mc,j h1,h2⟩⟩
  have e0:Env0 P w K mg (hidT s₁.heap H) callerA [] s₁ H:=⟨rfl,rfl,hM,λb o e=>eQ3 e,Nat.le_of_eq (cX9 _ _),trivial,λb hb=>absurd (show b∈([]:List Addr) from hb) (by simp),hok,.of_eq hg⟩
  refine iD ((F _ G (j hns)).run callerA [] s₁ H ⟨[.ref a],[]⟩ [.ref a] [.ref a] _ _ hr e0 (hbind s₁ (.ref a)) (.cons rfl .nil) (hsp H U hS)) λr s' h=>?_;cases r with
  |error e=>exact(hCX H e s' h).elim
  |ok fl =>
   cases fl with
   |next=>exact eB h
   |brk=>exact eB h
   |cont=>exact eB h
   |ret u =>
    obtain⟨v,H',os,bare,un,D,r',q⟩:=h;have q':v=.bl true:=q;subst q';obtain rfl:u=kA true:=r';refine⟨rfl,OldK.of_keep λb o e=>?_,os,bare⟩;cases q:H b with
    |none=>exact un.keep b o e q (by intro z;exact absurd (show b∈([]:List Addr) from z) (by simp)) (by simp)
    |some u =>
     rcases U b with z|⟨ob,xs,z⟩
     ·rw[q] at z;cases z
     ·have Z:=un.frzs b ob _ z;obtain⟨e1,_⟩:=hok b _ z;obtain⟨e2,_⟩:=D b _ Z;rw[e] at e1;cases e1;exact e2
 cases hk:K.lookup a with
 |some o =>
  have e:=KX a o hk;rw[ha] at e;cases e;refine core (λ_=>none) (λ_=>.inl rfl) (.inr ⟨_,vs.toArray,_,hk,rfl,rfl,rfl,by rw[aq,B];exact hl,by simpa using O⟩) (λb u z=>by have z':(none:Option HO)=some u:=z;cases z') (λb z=>absurd rfl z) λz=>absurd rfl z
 |none =>
  refine core (λb=>if b=a then some (.frz {cls:=.type "list",data:=.seq vs.toArray} (.lst (ns.map V.int))) else none) (λb=>?_) (.inl (.inr ⟨{cls:=.type "list",data:=.seq vs.toArray},if_pos rfl⟩)) (λb u z=>?_) (λb z=>?_) λ_=>hk
  ·by_cases hb:b=a
   ·exact .inr ⟨_,_,if_pos hb⟩
   ·exact .inl (if_neg hb)
  ·by_cases hb:b=a
   ·have z':=(if_pos hb).symm.trans z;cases z';subst hb;exact⟨ha,by rw[ae];exact hl,vs,_,O,ha⟩
   ·have z':=(if_neg hb).symm.trans z;cases z'
  ·by_cases hb:b=a
   ·exact hb
   ·exact absurd (if_neg hb) z
abbrev KOf{K:ax}{h:bj}(_:K.In h):ax:=K
def aXr(s:Stmt):Arguments:=match s with
 |.FunctionDef _ a _ _ _ _ _ _ _ _=>a
 |_=>{posonlyargs:=[],args:=[],vararg:=none,kwonlyargs:=[],kw_defaults:=[],kwarg:=none,defaults:=[]}
def aZp(s:Stmt):List Stmt:=match s with
 |.FunctionDef _ _ b _ _ _ _ _ _ _=>b
 |_=>[]
def aQ5(s:Stmt):Scope:=match s with
 |.FunctionDef _ _ _ _ _ _ sc _ _ _=>sc
 |_=>{kind:=.function,names:=[],isGenerator:=false,isCoroutine:=false}
abbrev CX0:CXT:=λ_ _ _ _ _ _=>False
abbrev E0:XK:=λ_ _ _=>False
theorem fJt{X:Cx}:cXh CX0 X E0:=λ_ _ _ _ _ _ _ h=>h.elim
structure Fun(K:ax)(x qual:Str)(st:Stmt)(f:Addr)(fd:d8):Prop where
 ex:∃(oc:ad) (od:Option Addr) (kV doc pm:ad) (an:Option Addr) (cdv ct:ad) (osl:Array (Option ad)),
  fd=eT x qual (aXr st) (aZp st) (aQ5 st) .none kV doc pm an cdv ct/\K.lookup f=some ⟨oc,od,.func fd,osl⟩/\gG K cdv qual=true
 kp:fH K (.ref f)=true
section
variable{P:aD}{w:aR}{K:ax}{mg:Str->Option ad}{base:bj}
theorem Fun.ok{x qual:Str}{st:Stmt}{f:Addr}{fd:d8}{N ps:List Str}{k:Nat}{sp:Sp}(F:Fun K x qual st f fd)(S:FnScope N ps (aQ5 st))(len:∀vs H Q E,sp vs H Q E->vs.length=ps.length)
  (hbody:∀ (cdv:ad) (A:bi) (outer:List Env) (s:aj) (H:Hp) (vs:List V) (Q:VK) (E:XK),Room k (A.deeper (jr qual (aQ5 st) s.heap.objs.size f cdv))->sp vs H Q E ->
   ∃t,PSs (cxOf CX0 P w K mg base N qual (aQ5 st) f cdv A outer s H E).nox (aZp st) t/\t {nx:=λ_ H'=>Q .non H',rt:=Q} (start N vs) H):FnOk P w K mg base CX0 (k+1) f fd ps sp:=by
 obtain⟨oc,D,kV,doc,pm,an,cdv,ct,j,rfl,lk,i⟩:=F.ex;refine fJp lk i S len λA outer s H vs Q E B d=>?_;obtain⟨t,h,q⟩:=hbody cdv A outer s H vs Q E B d;exact⟨t,h.nox,q⟩
theorem Fun.binds{x qual:Str}{st:Stmt}{f:Addr}{fd:d8}{ps:List Str}(F:Fun K x qual st f fd)
  (h:∀(kV doc pm:ad) (an:Option Addr) (cdv ct:ad) (us:List ad),us.length=ps.length->bindArgs (eT x qual (aXr st) (aZp st) (aQ5 st) .none kV doc pm an cdv ct) ⟨us,[]⟩=pure (ps.zip us)):Binds K fd ps []:=by
 obtain⟨oc,j,kV,doc,pm,an,cdv,ct,d,rfl,lk,i⟩:=F.ex;exact .all (h kV doc pm an cdv ct)
theorem dXv{x qual:Str}{st:Stmt}{f:Addr}{oc:ad}{od an:Option Addr}{osl:Array (Option ad)}{kV doc pm cdv ct:ad}(l:K.lookup f=some ⟨oc,od,.func (eT x qual (aXr st) (aZp st) (aQ5 st) .none kV doc pm an cdv ct),osl⟩)
  (c:gG K cdv qual=true) (k:fH K (.ref f)=true):Fun K x qual st f (eT x qual (aXr st) (aZp st) (aQ5 st) .none kV doc pm an cdv ct):=⟨⟨oc,od,kV,doc,pm,an,cdv,ct,osl,rfl,l,c⟩,k⟩
end
theorem ite2{c A B:Prop}[Decidable c](h1:c->A)(h2:¬ c->B):if c then A else B:=by
 by_cases h:c
 ·rw[if_pos h];exact h1 h
 ·rw[if_neg h];exact h2 h
def Same(H H':Hp):Prop:=∀b o,H b=some o->H' b=some o
end L2
set_option maxHeartbeats 4000000
namespace L2
open PySem PySem.Spec PyProof.Rows
theorem aJc(env:Env):∀(names:List (Str×fy)) (acc:List (Str×Addr)),(∀x,(x,a8)∈names->∃c,env.cells.lookup x=some c)->(∀x c,acc.lookup x=some c->env.cells.lookup x=some c) ->
  ∃cl,(forIn names acc λ(y:Str×fy) (cs:List (Str×Addr))=>(if (y.2==a8)=true then do let a <- cellOf env y.1;pure (bF ((y.1,a)::cs)) else pure (bF cs):Sem (ForInStep (List (Str×Addr)))))=pure cl /\
   (∀x c,cl.lookup x=some c->env.cells.lookup x=some c)/\(∀x,((x,a8)∈names\/(acc.lookup x).isSome=true)->(cl.lookup x).isSome=true)
 | [],acc,_,j=>⟨acc,by rfl,j,λx h=>by
   rcases h with h|h
   ·cases h
   ·exact h⟩
 |(n,k)::rest,acc,B,j=>by
  by_cases hk:(k==a8)=true
  ·have D:k=a8:=by cases k <;> first|rfl|cases hk
   subst D;obtain⟨c,G⟩:=B n ao;obtain⟨cl,e,h1,h2⟩:=aJc env rest ((n,c)::acc) (λx hx=>B x (am _ hx)) (λx d hx=>by
    simp only[c8] at hx
    by_cases i:(x==n)=true
    ·rw[i] at hx;cases hx;rw[g9 i];exact G
    ·rw[eU.mpr i] at hx;exact j x d hx)
   refine⟨cl,?_,h1,λx hx=>h2 x ?_⟩
   ·rw[eQ];have J:cellOf env n=pure c:=by unfold cellOf;rw[G]
    simp only[hk,if_true,J,jA];exact e
   ·rcases hx with hx|hx
    ·rcases aA.mp hx with hx|hx
     ·cases hx;right;simp
     ·exact .inl hx
    ·right
     simp only[c8];cases x==n <;> simp[hx]
  ·obtain⟨cl,e,h1,h2⟩:=aJc env rest acc (λx hx=>B x (am _ hx)) j;refine⟨cl,?_,h1,λx hx=>h2 x ?_⟩
   ·rw[eQ];simp only[hk,if_false,jA,aS];exact e
   ·rcases hx with hx|hx
    ·rcases aA.mp hx with hx|hx
     ·cases hx;exact absurd rfl hk
     ·exact .inl hx
    ·exact .inr hx
inductive Cap(N:List Str)(sc:Scope):List Str->List (Option Nat)->Prop
 |nil:Cap N sc [] []
 |own {x xs is}:Cap N sc xs is->Cap N sc (x::xs) (none::is)
 |cap {x xs is i}:N[i]?=some x->(x,a8)∈sc.names->Cap N sc xs is->Cap N sc (x::xs) (some i::is)
theorem Cap.length{N:List Str}{sc:Scope}{xs:List Str}{is:List (Option Nat)}(c:Cap N sc xs is):xs.length=is.length:=by
 induction c with
 |nil=>rfl
 |own _ d=>simp[d]
 |cap _ _ _ d=>simp[d]
theorem Cap.get{N:List Str}{sc:Scope}{xs:List Str}{is:List (Option Nat)}(c:Cap N sc xs is):∀{j i:Nat}{x:Str},xs[j]?=some x->is[j]?=some (some i)->N[i]?=some x/\(x,a8)∈sc.names:=by
 induction c with
 |nil=>intro j i x h;simp at h
 |own _ d =>
  intro j i x h1 h2;cases j with
  |zero=>simp at h2
  |succ j=>exact d (by simpa using h1) (by simpa using h2)
 |cap B hf _ d =>
  intro j i x h1 h2;cases j with
  |zero=>simp at h1 h2;subst h1;subst h2;exact⟨B,hf⟩
  |succ j=>exact d (by simpa using h1) (by simpa using h2)
def capt(is:List (Option Nat))(σ:St):St:=is.map λo=>o.bind λi=>(σ[i]?).join
theorem aXb{sc:Scope}{env:Env}:∀{names:List (Str×fy)}{x:Str},(names.lookup x=some .cell\/names.lookup x=some .free)->((names.map λ(n,k)=>if (k==a8&&env.scope.kind ==.function&&env.kindOf n==some .cell) then (n,ii) else (n,k)).lookup x=some .cell\/(names.map λ(n,k)=>if (k==a8&&env.scope.kind ==.function&&env.kindOf n==some .cell) then (n,ii) else (n,k)).lookup x=some .free)
 |[],x,h=>by simp at h
 |(n,k)::r,x,h=>by
  simp only[bd]
  by_cases d:(k==a8&&env.scope.kind ==.function&&env.kindOf n==some .cell)=true
  ·rw[if_pos d];simp only[c8] at h ⊢;cases hx:x==n with
   |true=>exact .inl rfl
   |false=>rw[hx] at h;exact aXb (sc:=sc) h
  ·rw[if_neg d];simp only[c8] at h ⊢;cases hx:x==n with
   |true=>rw[hx] at h;exact h
   |false=>rw[hx] at h;exact aXb (sc:=sc) h
theorem aJd{sc:Scope}{env:Env}:∀{names:List (Str×fy)}{x:Str},((names.map λ(n,k)=>if (k==a8&&env.scope.kind ==.function&&env.kindOf n==some .cell) then (n,ii) else (n,k)).lookup x=some .cell\/(names.map λ(n,k)=>if (k==a8&&env.scope.kind ==.function&&env.kindOf n==some .cell) then (n,ii) else (n,k)).lookup x=some .free)->names.lookup x=some .cell\/names.lookup x=some .free
 |[],x,h=>by simp at h
 |(n,k)::r,x,h=>by
  simp only[bd] at h
  by_cases d:(k==a8&&env.scope.kind ==.function&&env.kindOf n==some .cell)=true
  ·rw[if_pos d] at h;simp only[c8] at h ⊢;cases hx:x==n with
   |true =>
    right
    have:k==a8:=by
     simp only[aL] at d;exact d.1.1
    cases k <;> first|rfl|cases this
   |false=>rw[hx] at h;exact aJd (sc:=sc) h
  ·rw[if_neg d] at h;simp only[c8] at h ⊢;cases hx:x==n with
   |true=>rw[hx] at h;exact h
   |false=>rw[hx] at h;exact aJd (sc:=sc) h
theorem bQ8{α β:Type}[BEq α][LawfulBEq α]:∀{l:List (α×β)}{x:α}{k:β},l.lookup x=some k->(x,k)∈l
 |(n,d)::r,x,k,h=>by
  simp only[c8] at h;cases hx:x==n with
  |true=>rw[hx] at h;cases h;rw[g9 hx];exact ao
  |false=>rw[hx] at h;exact am _ (bQ8 h)
def PTs(X:Cx)(ifs:List Expr)(t:TT):Prop :=
 ∀(pins:List (Addr×Obj)) (s:aj) (σ:St) (H:Hp) (Q:Bool->Hp->Prop),Inv X pins σ H s->t σ H Q ->
  aH (aF X.prog X.w) X.A (forIn ifs true λc r=>if r=true then do let ok <- isTrue c X.env (eval c X.env);pure (bF ok) else pure (bF r)) (TP X pins σ Q) X.xe s
def tYes:TT:=λ_ H Q=>Q true H
theorem eQn{X:Cx}:PTs X [] tYes:=λpins s σ H Q I h=>wpAny_tests_nil ⟨H,I,h⟩
theorem eQo{X:Cx}{c:Expr}{t:TT}(h:PT X c t):PTs X [c] t:=λpins s σ H Q I q=>wpAny_tests_one (h pins s σ H Q I q)
def Wk(σ0 σ2:St):Prop:=σ2.length=σ0.length/\∀(j:Nat) v,σ0[j]?=some (some v)->σ2[j]?=some (some v)
def okV(names outer:List (Str×fy)):Bool:=names.all λy=>match y.2 with
 |.free=>match outer.lookup y.1 with
  |some .cell=>true
  |some .free=>true
  |_=>false
 |_=>true
theorem dXw{names:List (Str×fy)}{sc:Scope}(h:okV names sc.names=true):∀y∈names,y.2=.free->Vis sc y.1/\sc.names.lookup y.1≠some .local:=λy d hf=>by
 have:=bB.mp h y d
 rw[hf] at this;unfold Vis;cases q:sc.names.lookup y.1 with
 |none=>rw[q] at this;cases this
 |some k=>rw[q] at this;cases k <;> first|(simp;done)|cases this
structure Bs(mg:Str->Option ad):Prop where
 len:mg "len"=none
 range:mg "range"=none
 sorted:mg "sorted"=none
 tuple:mg "tuple"=none
 list:mg "list"=none
 set:mg "set"=none
 sum:mg "sum"=none
 min:mg "min"=none
 max:mg "max"=none
 all:mg "all"=none
 any:mg "any"=none
 isinstance:mg "isinstance"=none
 int:mg "int"=none
 str:mg "str"=none
 bool:mg "bool"=none
 zip:mg "zip"=none
 enumerate:mg "enumerate"=none
theorem fQm:bH "len"=some (.builtin "len"):=by decide +kernel
theorem aZv:bH "sorted"=some (.builtin "sorted"):=by decide +kernel
theorem fQn:bH "sum"=some (.builtin "sum"):=by decide +kernel
theorem fQo:bH "all"=some (.builtin "all"):=by decide +kernel
theorem fQp:bH "any"=some (.builtin "any"):=by decide +kernel
theorem bZg:bH "isinstance"=some (.builtin "isinstance"):=by decide +kernel
theorem bZh:bH "tuple"=some (.type "tuple"):=by decide +kernel
theorem cXp:bH "set"=some (.type "set"):=by decide +kernel
theorem dXx:bH "int"=some (.type "int"):=by decide +kernel
theorem dXy:bH "str"=some (.type "str"):=by decide +kernel
theorem eQp:bH "bool"=some (.type "bool"):=by decide +kernel
structure Df(P:aD)(w:aR)(K:ax)(mg:Str->Option ad)(base:bj)(k:Nat)(x:Str)(ps:List Str)(sp:Sp):Prop where
 ex:∃(f:Addr) (fd:d8),FnOk P w K mg base CX0 k f fd ps sp/\Binds K fd ps []/\fH K (.ref f)=true/\mg x=some (.ref f)
theorem Df.mono{P:aD}{w:aR}{K:ax}{mg:Str->Option ad}{base:bj}{j k:Nat}{x:Str}{ps:List Str}{sp:Sp}(D:Df P w K mg base j x ps sp)(h:j<=k):Df P w K mg base k x ps sp:=by
 obtain⟨f,fd,a,b,c,d⟩:=D.ex;exact⟨f,fd,a.mono h,b,c,d⟩
theorem dZ5{X:Cx}{k:Nat}{x:Str}{ps:List Str}{sp:Sp}{p pos:Pos}{e:Expr}{es:List Expr}{t:TA}(D:Df X.prog X.w X.K X.mg X.base k x ps sp)(hr:Room k X.A)(hg:Gl X x)(ha:PA X (e::es) t)
  (hdb:(x==("__debug__":Str))=false:=by decide) (he:au (e::es) X.env=(false,eval e X.env)::au es X.env:=by rfl) (hpl:(cD pos (au es X.env)).any (·.1)=false:=by rfl) :
  PE X (.Call (.Name x p) (e::es) [] pos) (fQg sp [] E0 t):=by
 obtain⟨f,fd,F,i,d,hm⟩:=D.ex;exact eQg F hr hg hm d i .nil fJt ha hdb he hpl
structure Tx(K:ax)(mg:Str->Option ad)(x:Str)(st:Stmt):Prop where
 ex:∃(f:Addr) (fd:d8),Fun K x x st f fd/\mg x=some (.ref f)
theorem Tx.df{P:aD}{w:aR}{K:ax}{mg:Str->Option ad}{base:bj}{k:Nat}{x:Str}{st:Stmt}{ps:List Str}{sp:Sp}(T:Tx K mg x st)
  (b:∀{f:Addr}{fd:d8},Fun K x x st f fd->Binds K fd ps []) (h:∀{f:Addr}{fd:d8},Fun K x x st f fd->FnOk P w K mg base CX0 k f fd ps sp):Df P w K mg base k x ps sp:=by
 obtain⟨f,fd,F,m⟩:=T.ex;exact⟨f,fd,h F,b F,F.kp,m⟩
theorem tx_mk{K:ax}{h:bj}{mg:Str->Option ad}{x:Str}{st:Stmt}{f:Addr}{od an:Option Addr}{sl:Array (Option ad)}{oc kV dc pm cd ct:ad}(X:K.In h)(G:h.Ns bq mg)
  (a:bW K bq x=some (some (.ref f))) (l:K.lookup f=some ⟨oc,od,.func (eT x x (aXr st) (aZp st) (aQ5 st) .none kV dc pm an cd ct),sl⟩) (c:gG K cd x=true) (k:fH K (.ref f)=true):Tx K mg x st :=
 ⟨f,_,dXv (st:=st) l c k,PySem.W.mg_of X G a⟩
theorem bs_mk{K:ax}{h:bj}{mg:Str->Option ad}(X:K.In h)(G:h.Ns bq mg)(a:∀x∈(["len", "range", "sorted", "tuple", "list", "set", "sum", "min", "max", "all", "any", "isinstance", "int", "str", "bool", "zip", "enumerate"]:List Str),bW K bq x=some none):Bs mg:=by
 have q:∀x∈(["len", "range", "sorted", "tuple", "list", "set", "sum", "min", "max", "all", "any", "isinstance", "int", "str", "bool", "zip", "enumerate"]:List Str),mg x=none:=λx d=>PySem.W.mg_none_of X G (a x d);constructor <;> exact q _ (by decide +kernel)
theorem bs_all{K:ax}(z1:bW K bq "len"=some none)(z2:bW K bq "range"=some none)(z3:bW K bq "sorted"=some none)(z4:bW K bq "tuple"=some none)(z5:bW K bq "list"=some none)(z6:bW K bq "set"=some none)
  (z7:bW K bq "sum"=some none) (z8:bW K bq "min"=some none) (z9:bW K bq "max"=some none) (z10:bW K bq "all"=some none) (z11:bW K bq "any"=some none) (z12:bW K bq "isinstance"=some none)
  (z13:bW K bq "int"=some none) (z14:bW K bq "str"=some none) (z15:bW K bq "bool"=some none) (z16:bW K bq "zip"=some none) (z17:bW K bq "enumerate"=some none) :
  ∀x∈(["len", "range", "sorted", "tuple", "list", "set", "sum", "min", "max", "all", "any", "isinstance", "int", "str", "bool", "zip", "enumerate"]:List Str),bW K bq x=some none:=λx d=>by
 simp only[aA,c9,or_false] at d;rcases d with rfl|rfl|rfl|rfl|rfl|rfl|rfl|rfl|rfl|rfl|rfl|rfl|rfl|rfl|rfl|rfl|rfl <;> assumption
theorem fJu{X:Cx}{x:Str}{n:String}{pos:Pos}(hg:Gl X x)(hm:X.mg x=none)(hv:bH x=some (.type n))(hn:x ≠ "__name__":=by decide)(hd:(x==("__debug__":Str))=false:=by decide):PE X (.Name x pos) (tC (.ty n)) :=
 eQ4 hg hm hv (show RelV (.ty n) (.type n) from rfl) hn hd
def subT(t T:String):Option Bool:=if t=T then some true else
  (([("bool", "int", true), ("int", "bool", false), ("str", "int", false), ("str", "bool", false), ("str", "tuple", false), ("tuple", "str", false), ("tuple", "int", false), ("tuple", "bool", false), ("NoneType", "str", false), ("NoneType", "tuple", false), ("NoneType", "int", false), ("NoneType", "bool", false),
    ("int", "str",false),("int", "tuple",false),("bool", "str",false),("bool", "tuple",false),("list", "tuple",false),("list", "str",false),("tuple", "list",false),("int", "list",false),("str", "list",false),("list", "int",false),("list", "bool",false)]:List (String×String×Bool)).find? λr=>r.1==t&&r.2.1==T).map (·.2.2)
theorem cXq{K:ax}{t T:String}{b:Bool}(h:subT t T=some b):iP K (.type t) (.type T)=some b:=by
 unfold subT at h
 by_cases e:t=T
 ·rw[if_pos e] at h;cases h;subst e;unfold iP;rw[if_pos (by exact beq_self_eq_true _)]
 ·rw[if_neg e] at h;rw[bh] at h;obtain⟨r,d,rfl⟩:=h;have h1:=List.find?_some d;have h2:=List.mem_of_find?_eq_some d;simp only[aL,beq_iff_eq] at h1;obtain⟨rfl,rfl⟩:=h1;simp only[aA,c9,or_false] at h2;rcases h2 with rfl|rfl|rfl|rfl|rfl|rfl|rfl|rfl|rfl|rfl|rfl|rfl|rfl|rfl|rfl|rfl|rfl|rfl|rfl|rfl|rfl|rfl|rfl <;> first|rfl|(unfold iP PySem.W.kitCls PySem.W.subIn;kernel_rfl)|kernel_rfl
def rIsi(K:ax):List V->Hp->VK->Prop:=λxs H Q=>∃x T t b,xs=[x,.ty T]/\TyOf K H x (.type t)/\subT t T=some b/\Q (.bl b) H
theorem call_isi{X:Cx}:CallR X (.builtin "isinstance") (rIsi X.K):=by
 intro pins s σ H xs us Q I i h;obtain⟨x,T,t,b,rfl,ty,e,q⟩:=h;obtain⟨u,c,rfl,j,rc⟩:=i.two;cases rc;exact cXg I j ty (cXq e) λd=>⟨.bl b,H,I.tok d,rfl,q⟩
end L2
set_option maxHeartbeats 1000000
namespace L2
open PySem PySem.Spec PyProof.Rows
def bQ9(ifs:List Expr)(env:Env):Sem Bool:=forIn ifs true λc r=>if r=true then do let ok <- isTrue c env (eval c env);pure (bF ok) else pure (bF r)
def aZ2(target:Expr)(ifs:List Expr)(at0:Pos)(m:Sem Unit)(c:Code)(it:ad)(env:Env):Sem Fin :=
 fR at0>>=λ_=>ff it>>=λr=>match r with
  |none=>pure (.done .next)
  |some v=>eO target it v>>=λ_=>jq target env v>>=λ_=>bQ9 ifs env>>=λok=>if ok=true then m>>=λ_=>again c else again c
def emitOf(elt:Expr)(acc:ad)(env:Env):Sem Unit:=eval elt env>>=λx=>call (.builtin "list.append") [acc,x]>>=λ_=>pure ()
def innerOf(e:Expr)(iter:Expr)(acc:ad)(env:Env):Sem Unit:=eval iter env>>=λx=>fR iter.pos>>=λ_=>ca iter env x>>=λx=>fQ [x] (jR x)>>=λit=>runOwn (.compStart e 1 it acc env) env>>=λ_=>pure ()
theorem aQe(elt target iter:Expr)(ifs:List Expr)(scope:Scope)(pos:Pos)(it acc:ad)(env:Env) :
  eI (.ListComp elt [⟨target,iter,ifs,0⟩] scope pos) 0 it acc env=aZ2 target ifs iter.pos (emitOf elt acc env) (.compLoop (.ListComp elt [⟨target,iter,ifs,0⟩] scope pos) 0 it acc env) it env:=by
 rw[compTurn_list];unfold aZ2 bQ9 emitOf;refine congrArg _ (funext λ_=>congrArg _ (funext λr=>?_));cases r with
 |none=>rfl
 |some v =>
  refine congrArg _ (funext λ_=>congrArg _ (funext λ_=>congrArg _ (funext λok=>?_)));cases ok <;> rfl
abbrev TB:=St->Hp->(Hp->Prop)->Prop
def PB(X:Cx)(m:Sem Unit)(t:TB):Prop :=
 ∀(pins:List (Addr×Obj)) (s:aj) (σ:St) (H:Hp) (N:Hp->Prop),Inv X pins σ H s->t σ H N ->
  aH (aF X.prog X.w) X.A m (λ_ s'=>∃σ' H',Inv X pins σ' H' s'/\Wk σ σ'/\N H') (λ_ _=>False) s
def fQq(D:Addr)(te:TE):TB:=fun σ H N=>te σ H λy H4=>∃zs,H4 D=some (.lst zs)/\zs.length<sizeLine/\N (upd H4 D (.lst (zs++[y])))
def bJf(J:It)(σ0:St)(g:TG)(tt:TT)(tb:TB)(Q:Hp->Prop)(H:Hp):Prop :=
 ∃W:Nat->Nat->Hp->Prop,(∃m,W 0 m H)/\∀i m H,W i m H ->
  (J.stop i H/\Q H)\/(J.go i H/\∃ N:Hp->Prop,(∀ H',N H'->∃ m',m' < m/\W (i + 1) m' H') /\
   ∀x H',J.yld i H x H'->g x σ0 H' fun σ2 H2=>Wk σ0 σ2/\tt σ2 H2 λb H3=>if b=true then tb σ2 H3 N else N H3)
def dXz(wi:TI)(g:TG)(tt:TT)(tb:TB):TB:=fun σ H N=>wi σ H λJ H1=>bJf J σ g tt tb N H1
def cQf(is:List (Option Nat))(wi:TI)(g:TG)(tt:TT)(tb:Addr->TB):TE:=fun σ H Q=>wi σ H λJ H1=>∀D,H1 D=none->bJf J (capt is σ) g tt (tb D) (Q (.ref D)) (upd H1 D (.lst []))
theorem Wk.refl(σ:St):Wk σ σ:=⟨rfl,λ_ _ h=>h⟩
theorem Wk.trans{a b c:St}(h:Wk a b)(k:Wk b c):Wk a c:=⟨k.1.trans h.1,λj v e=>k.2 j v (h.2 j v e)⟩
theorem eQq{σ:St}{i:Nat}{v:V}(h:σ[i]?=some none):Wk σ (σ.set i (some v)):=by
 refine⟨List.length_set,λj u e=>?_⟩
 by_cases d:j=i
 ·subst d;rw[h] at e;cases e
 ·rw[fG (cv d)];exact e
section
variable{X:Cx}
theorem aQk{elt:Expr}{te:TE}{D:Addr}(hxe:X.xe=λ_ _=>False)(he:PE X elt te):PB X (emitOf elt (.ref D) X.env) (fQq D te):=by
 intro pins s σ H N I h;unfold emitOf;have h1:=he pins s σ H _ I h;rw[hxe] at h1;refine aa (thn h1 λy s1 ⟨v,H1,J,i,zs,B,d,n⟩=>aa ?_);have h2:=bXh pins s1 σ H1 (.ref D) [v] (.ref D) [y] (λu L=>u=.non/\N L) J rfl (.cons i .nil) ⟨D,zs,v,rfl,rfl,B,d,rfl,n⟩;rw[hxe] at h2;exact thn h2 λ_ s2 ⟨u,H2,G,_,_,j⟩=>af ⟨σ,H2,G,Wk.refl σ,j⟩
theorem bZi{e target:Expr}{ifs:List Expr}{at0:Pos}{d:Nat}{acc:ad}{it:Addr}{m:Sem Unit}{g:TG}{tt:TT}{tb:TB}{J:It}{fp:List Addr}{tn:Nat->bj->Prop}{Q:Hp->Prop}{R:Result->aj->Prop}{pins:List (Addr×Obj)}{s:aj}{σ:St}{H:Hp}
  (hcalm:X.calm=true) (hxe:X.xe=λ_ _=>False) (hturn:eI e d (.ref it) acc X.env=aZ2 target ifs at0 m (.compLoop e d (.ref it) acc X.env) (.ref it) X.env)
  (hfr:(ij e d (.ref it) acc X.env).isFrame=false) (hA:X.A.under (ij e d (.ref it) acc X.env)=X.A)
  (T:Turn X.prog X.w X.K target J fp it tn) (hg:PG X target g) (ht:PTs X ifs tt) (hb:PB X m tb)
  (I:Inv X pins σ H s) (st:tn 0 s.heap) (f:∀b∈fp,FpOk X pins H b) (h:bJf J σ g tt tb Q H)
  (fin:∀H' s',Inv X pins σ H' s'->(∀b∈fp,FpOk X pins H' b)->Q H'->R (.ok .next) s') :
  fu (aF X.prog X.w) X.A (.compLoop e d (.ref it) acc X.env) R s:=by
 obtain⟨W,⟨m0,w0⟩,turn⟩:=h;have j:∀{H':Hp},(∀b∈fp,H' b=none)->∀b∈fp,FpOk X pins H' b:=λhn b hb=>⟨hn b hb,(f b hb).2⟩;refine codeAny_loop rfl (λn s'=>∃i H',Inv X pins σ H' s'/\tn i s'.heap/\(∀b∈fp,H' b=none)/\W i n H') ?_ m0 ⟨0,H,I,st,λb hb=>(f b hb).1,w0⟩;rintro n s3 ⟨i,H3,I3,U,G,w3⟩;have eden:(aF X.prog X.w).den (.compLoop e d (.ref it) acc X.env)=(eI e d (.ref it) acc X.env).onRaise (λx=>do noteFrame x X.env;theTreesLotGoes x):=by
  show(if (ij e d (.ref it) acc X.env).isFrame=true then _ else _)=_
  rw[hfr];rfl
 rw[eden,hturn,hA];refine wpAny_noted ?_;unfold aZ2;refine aa (fB ?_);rcases turn i n H3 w3 with⟨stop,qn⟩|⟨go,N,hN,step⟩
 ·refine aa (thn (T.done X rfl rfl rfl hcalm i pins s3 σ H3 _ I3 (j G) U stop) λr s4 ⟨hr,I4⟩=>?_);subst hr;exact af (fin H3 s4 I4 (j G) qn)
 ·refine aa (thn (T.item X rfl rfl rfl hcalm i pins s3 σ H3 _ I3 (j G) U go) λr s4 ⟨u,hr,h4⟩=>?_);subst hr;refine aa (thn h4 λ_ s5 ⟨x,H5,I5,r5,y5,D,fr5⟩=>?_);have I5':=I5.pinned (j fr5) (T.obj _ _ D);have q5:=hg _ s5 σ H5 x u _ I5' r5 (step x H5 y5);rw[hxe] at q5;refine aa (eA q5 (λ_ s6 ⟨σ6,H6,I6,O,q6⟩=>?_) λ_ _ z=>z.elim);have Z:=ht _ s6 σ6 H6 _ I6 q6;rw[hxe] at Z;refine aa (eA Z (λok s7 ⟨H7,I7,Z⟩=>?_) λ_ _ z=>z.elim);have B:∀{σ8:St}{L:Hp}{Y:aj},Inv X (pins++bXd fp s5.heap) σ8 L Y->Wk σ σ8->N L->∃m,m<n/\∃i H',Inv X pins σ H' Y/\tn i Y.heap/\(∀b∈fp,H' b=none)/\W i m H':=λ{σ8 L Y} I8 wk n8=>by
   obtain⟨m',hm,w8⟩:=hN L n8;refine⟨m',hm,i+1,L,I8.unpinned.weak wk.1.symm wk.2,T.keep _ _ _ D λb hb o e=>(I8.pin (b,o) (bm _ (bm _ (aXh hb e)))).1,λb hb=>?_,w8⟩;obtain⟨o,e,_⟩:=T.obj _ _ D b hb;exact(I8.pin (b,o) (bm _ (bm _ (aXh hb e)))).2.1
  cases ok with
  |false=>exact af ⟨rfl,B I7 O Z⟩
  |true =>
   refine aa (eA (hb _ s7 σ6 H7 N I7 Z) (λ_ Y ⟨σ8,L,I8,wk8,n8⟩=>?_) λ_ _ z=>z.elim);exact af ⟨rfl,B I8 (O.trans wk8) n8⟩
end
section
variable{X:Cx}
theorem cXr{e target iter:Expr}{ifs:List Expr}{it acc:ad}{env:Env}{A:bi}{prog:aD}{w:aR}{R:Result->aj->Prop}{s:aj}(hc:(clausesOf e)[1]?=some ⟨target,iter,ifs,0⟩)(hfr:(gK e 1 it acc env).isFrame=false)(hA:A.under (gK e 1 it acc env)=A)
  (h0:fu (aF prog w) A (.compLoop e 1 it acc env) R s)
  (h:aH (aF prog w) A (jR it) (λit' s'=>fu (aF prog w) A (.compLoop e 1 it' acc env) R s') (notedBy (aF prog w) A env λx s'=>R (.error x) s') s) :
  fu (aF prog w) A (.compStart e 1 it acc env) R s:=by
 refine iu ?_;have d:(aF prog w).den (.compStart e 1 it acc env)=(compStart e 1 it acc env).onRaise (λx=>do noteFrame x env;fR theWindowsPlace):=by
  show(if (gK e 1 it acc env).isFrame=true then _ else _)=_
  rw[hfr];rfl
 rw[d,hA];refine wpAny_notedAt ?_;unfold compStart;rw[hc];simp only[Option.elim,bne_self_eq_false,aS,if_false];refine aa (dA (wpAny_ite ?_))
 split
 ·first
   |exact aa (af (af (jB rfl h0)))
   |exact af (jB rfl h0)
 ·refine aa (db ?_);refine aa (fB (aa (eA h (λit' s' h'=>af (jB rfl h')) λ_ _ x=>x)))
theorem dZ6{e t2 i2:Expr}{ifs2:List Expr}{acc:ad}{m:ad->Sem Unit}{wi:TI}{g:TG}{tt:TT}{tb:TB}(hcalm:X.calm=true)(hxe:X.xe=λ_ _=>False)(hc:(clausesOf e)[1]?=some ⟨t2,i2,ifs2,0⟩)
  (hturn:∀it,eI e 1 (.ref it) acc X.env=aZ2 t2 ifs2 i2.pos (m acc) (.compLoop e 1 (.ref it) acc X.env) (.ref it) X.env)
  (hi:PI X t2 i2 wi) (hg:PG X t2 g) (ht:PTs X ifs2 tt) (hb:PB X (m acc) tb)
  (hs:∀x,ca i2 X.env x=pure x) (hfr:∀it,(gK e 1 it acc X.env).isFrame=false) (hfr2:∀it,(ij e 1 it acc X.env).isFrame=false)
  (hA:∀it,X.A.under (gK e 1 it acc X.env)=X.A) (hA2:∀it,X.A.under (ij e 1 it acc X.env)=X.A) :
  PB X (innerOf e i2 acc X.env) (dXz wi g tt tb):=by
 intro pins s σ H N I h;unfold innerOf;have h1:=hi pins s σ H _ I h;rw[hxe] at h1;refine aa (thn h1 λv s1 j=>aa (fB (aa (jh (hs v) (aa (bG (thn j λB s2 i=>?_)))))));obtain⟨it,fp,L,J,H2,rfl,D,T,d,f2,i⟩:=i;refine aa (wpAny_runOwn ?_);have loop:fu (aF X.prog X.w) X.A (.compLoop e 1 (.ref it) acc X.env) (λr s'=>match r with
   |.ok f=>aH (aF X.prog X.w) X.A (pure ()) (λ_ s'=>∃σ' H',Inv X pins σ' H' s'/\Wk σ σ'/\N H') (λ_ _=>False) s'
   |.error x=>cameBackBy (aF X.prog X.w) X.A X.env (λ_ _=>False) x s') s2 :=
  bZi hcalm hxe (hturn it) (hfr2 _) (hA2 _) T hg ht hb D d f2 i λH' s' G _ n=>af ⟨σ,H',G,Wk.refl σ,n⟩
 exact cXr hc (hfr _) (hA _) loop (T.self _ 0 _ _ _ d loop)
end
theorem aJe(env:Env):∀(names:List (Str×fy)) (acc:List (Str×Addr)),(∀x,(x,a8)∈names->∃c,env.cells.lookup x=some c) ->
  ∃cl,(forIn names acc λ(y:Str×fy) (cs:List (Str×Addr))=>(if (y.2==a8)=true then do let a <- cellOf env y.1;pure (bF ((y.1,a)::cs)) else pure (bF cs):Sem (ForInStep (List (Str×Addr)))))=pure cl /\
   (∀x c,cl.lookup x=some c->(x,a8)∈names\/acc.lookup x=some c)
 |[],acc,_=>⟨acc,by rfl,λ_ _ h=>.inr h⟩
 |(n,k)::rest,acc,j=>by
  by_cases hk:(k==a8)=true
  ·have B:k=a8:=by cases k <;> first|rfl|cases hk
   subst B;obtain⟨c,D⟩:=j n ao;obtain⟨cl,e,h1⟩:=aJe env rest ((n,c)::acc) (λx i=>j x (am _ i));refine⟨cl,?_,λx d i=>?_⟩
   ·rw[eQ];have G:cellOf env n=pure c:=by unfold cellOf;rw[D]
    simp only[hk,if_true,G,jA];exact e
   ·rcases h1 x d i with z|z
    ·exact .inl (am _ z)
    ·simp only[c8] at z;cases hxn:x==n with
     |true=>rw[g9 hxn];exact .inl ao
     |false=>rw[hxn] at z;exact .inr z
  ·obtain⟨cl,e,h1⟩:=aJe env rest acc (λx i=>j x (am _ i));refine⟨cl,?_,λx d i=>?_⟩
   ·rw[eQ];simp only[hk,if_false,jA,aS];exact e
   ·rcases h1 x d i with z|z
    ·exact .inl (am _ z)
    ·exact .inr z
theorem aXo{env:Env}{scope:Scope}(hn:∀x,(x,a8)∈scope.names->∃c,env.cells.lookup x=some c) :
  ∃cl,closureFor scope env=pure cl/\(∀x c,cl.lookup x=some c->env.cells.lookup x=some c)/\(∀x,(x,a8)∈scope.names->(cl.lookup x).isSome=true)/\∀x c,cl.lookup x=some c->(x,a8)∈scope.names:=by
 obtain⟨cl,e,h1,h2⟩:=aJc env scope.names [] hn (λx c h=>by cases h)
 obtain⟨cl',B,i⟩:=aJe env scope.names [] hn;have j:cl=cl':=by
  have:=e.symm.trans B
  injection this
 subst j;refine⟨cl,?_,h1,λx d=>h2 x (.inl d),λx c d=>(i x c d).elim id λz=>by cases z⟩
 have q:closureFor scope env=(forIn scope.names ([]:List (Str×Addr)) λ(y:Str×fy) (cs:List (Str×Addr))=>(if (y.2==a8)=true then do let a <- cellOf env y.1;pure (bF ((y.1,a)::cs)) else pure (bF cs):Sem (ForInStep (List (Str×Addr))))):=by
  unfold closureFor;exact bind_pure _
 rw[q,e]
def ocl(oc:Option Str)(c:Addr)(cl:List (Str×Addr)):List (Str×Addr):=match oc with
 |none=>cl
 |some x=>(x,c)::cl
def ohp(oc:Option Str)(h:bj):bj:=match oc with
 |none=>h
 |some _=>h.push {cls:=.type "cell",data:=.cell none}
theorem bQa{oc:Option Str}{c d:Addr}{cl:List (Str×Addr)}{x:Str}(h:(ocl oc c cl).lookup x=some d):(oc=some x/\d=c)\/cl.lookup x=some d:=by
 cases oc with
 |none=>exact .inr h
 |some z =>
  unfold ocl at h;simp only[c8] at h;cases hx:x==z with
  |true=>rw[hx] at h;cases h;rw[g9 hx];exact .inl ⟨rfl,rfl⟩
  |false=>rw[hx] at h;exact .inr h
theorem cQg{oc:Option Str}{c:Addr}{cl:List (Str×Addr)}{x:Str}(h:(cl.lookup x).isSome=true):∃d,(ocl oc c cl).lookup x=some d:=by
 cases oc with
 |none=>exact b8.mp h
 |some z =>
  unfold ocl;simp only[c8];cases hx:x==z with
  |true=>exact⟨_,rfl⟩
  |false=>exact b8.mp h
theorem eQr{c:Addr}{cl:List (Str×Addr)}{x:Str}:(ocl (some x) c cl).lookup x=some c:=by unfold ocl;simp
theorem aJw{oc:Option Str}{h:bj}{b:Addr}{o:Obj}(e:h.get? b=some o):(ohp oc h).get? b=some o:=by
 cases oc with
 |none=>exact e
 |some _=>exact ah _ e
def aQc(X:Cx)(N':List Str)(scope:Scope)(cl:List (Str×Addr))(C:Addr)(fp:List Addr)(s:aj)(H:Hp)(oc:Option Str):Cx :=
 {X with N:=N',s₀:=s,H₀:=H,env:=gL scope cl C X.env,outer:=X.stack,ex:=fp,fn:=λx=>decide (oc=some x),pn:=[],xe:=λ_ _=>False}
theorem cXs{scope:Scope}{env:Env}{cl:List (Str×Addr)}{M:Model}{A:bi}{E:ad->aj->Prop}{s:aj}{Q:Env->aj->Prop}
  (h:Q {scope:=scope,locals:=s.heap.objs.size,globals:=env.globals,cells:=eP (s.heap.objs.size+1) scope.names cl,qual:=env.qual,func:=none,code:=env.code,frame:=env.frame,builtins:=env.builtins} {s with heap:=fS (s.heap.push {cls:=.type "dict",data:=.dict #[]}) scope.names}) :
  aH M A (newFunctionEnv scope env.globals cl [] env.qual none .none (some env)) Q E s:=by
 unfold newFunctionEnv;simp only[Option.isSome_some,if_true];refine aa (wpAny_alloc ?_);refine aa (wpAny_layCells _ (λname kind cells=>by cases hkc:kind==ii <;> simp[hkc]) _ _ _ _ ?_)
 rw[show({s with heap:=s.heap.push {cls:=.type "dict",data:=.dict #[]}}:aj).heap.objs.size=s.heap.objs.size+1 from cx ..]
 exact aa (af (af h))
section
variable{X:Cx}{pins:List (Addr×Obj)}{σ:St}{H H':Hp}{s s2:aj}
theorem bZ4{N':List Str}{scope:Scope}{cl:List (Str×Addr)}{fp:List Addr}{oc:Option Str}(I:Inv X pins σ H s)(hf:∀b∈fp,FpOk X pins H b)(hfl:∀b∈fp,b<s.heap.objs.size)(hkind:scope.kind=.function)
  (c1:∀x c,cl.lookup x=some c->X.env.cells.lookup x=some c) (c2:∀x,(x,a8)∈scope.names->(cl.lookup x).isSome=true) (hcell:∀y∈scope.names,y.2=.cell->oc=some y.1) (hun:∀x,oc=some x->cl.lookup x=none) :
  (aQc X N' scope (ocl oc (s.heap.objs.size+1) cl) s.heap.objs.size fp s H oc).Ok where
 mod:=I.ok.mod
 kind:=hkind
 glob:=I.ok.glob
 blt:=I.ok.blt
 above:=Nat.le_refl _
 inj:=λx y c h1 h2=>by
  have old:∀z,cl.lookup z=some (s.heap.objs.size+1)->False:=λz e=>by
   obtain⟨v,q⟩:=I.cell z _ (c1 z _ e);exact absurd (show s.heap.objs.size+1<s.heap.objs.size from q.lt) (Nat.not_lt.mpr (Nat.le_succ _))
  rcases bQa h1 with⟨B,rfl⟩|B <;> rcases bQa h2 with⟨j,e⟩|j
  ·rw[B] at j;exact aN j
  ·exact(old y j).elim
  ·subst e;exact(old x B).elim
  ·exact I.ok.inj x y c (c1 x c B) (c1 y c j)
 has:=λx D=>by
  have d:scope.names.lookup x=some .cell\/scope.names.lookup x=some .free:=aJd (sc:=scope) D;rcases d with d|d
  ·have e:=hcell _ (bQ8 d) rfl;subst e;exact⟨_,eQr⟩
  ·exact cQg (c2 x (bQ8 d))
 cab:=λx c h G=>by
  have h':oc=some x:=of_decide_eq_true h;rcases bQa G with⟨_,rfl⟩|e
  ·exact Nat.le_succ _
  ·rw[hun x h'] at e;cases e
 hd:=I.ok.hd
 frames:=I.ok.frames
 gd:=I.ok.gd
 stk:=.inl rfl
 exf:=λb i=>⟨Nat.ne_of_lt (hfl b i),λx c e=>by
  rcases bQa e with⟨_,rfl⟩|e
  ·intro z;exact absurd (show s.heap.objs.size+1<s.heap.objs.size from z▸hfl b i) (Nat.not_lt.mpr (Nat.le_succ _))
  ·exact(hf b i).2.2.2.2.1 x c (c1 x c e)⟩
 bs:=I.bs
 bsz:=Nat.le_trans I.ok.bsz I.sz
 noex:=λb o e i=>by
  rcases(hf b i).2.2.2.1 with z|z
  ·exact I.ok.noex b o e z
  ·have q:=I.ok.bs b o e;exact absurd (Nat.lt_of_lt_of_le (aB q.1) z) (Nat.lt_irrefl _)
 exfs:=λb i z=>by
  rcases aA.mp (I.stkSub b z) with e|e
  ·exact(hf b i).2.1 e
  ·exact(hf b i).2.2.1 e
 funs:=I.stack
 frf:=I.stkFree
theorem bQb{N':List Str}{is:List (Option Nat)}{scope:Scope}{cl:List (Str×Addr)}{fp:List Addr}{oc:Option Str}(I:Inv X pins σ H s)(ok:(aQc X N' scope (ocl oc (s.heap.objs.size+1) cl) s.heap.objs.size fp s H oc).Ok)(hN:X.N.Nodup)
  (c1:∀x c,cl.lookup x=some c->X.env.cells.lookup x=some c) (c2:∀x,(x,a8)∈scope.names->(cl.lookup x).isSome=true) (hu:∀x,(x,a8)∈scope.names->scope.names.lookup x=some .free) (cp:Cap X.N scope N' is)
  (hV:∀x,(x,a8)∈scope.names->Vis X.env.scope x/\X.env.scope.names.lookup x≠some .local) (hun:∀x,oc=some x->cl.lookup x=none) :
  Inv (aQc X N' scope (ocl oc (s.heap.objs.size+1) cl) s.heap.objs.size fp s H oc) [] (capt is σ) H {s with heap:=ohp oc (s.heap.push {cls:=.type "dict",data:=.dict #[]})}:=by
 have kp:∀b o,s.heap.get? b=some o->(ohp oc (s.heap.push {cls:=.type "dict",data:=.dict #[]})).get? b=some o:=λb o e=>aJw (ah _ e);exact {
 ok:=ok
 os:=rfl
 bare:=I.bare
 base:=Un.kept kp
 loc:=by
  refine⟨_,(bj.Ns.new s.heap (.type "dict")).keeps λb o e=>aJw e,λj x v e1 e2 e3=>?_⟩;have U:N'[j]?=some x:=e1;unfold capt at e2;rw[aQ] at e2;cases hi:is[j]? with
  |none=>rw[hi] at e2;cases e2
  |some o =>
   rw[hi] at e2;cases o with
   |none=>cases e2
   |some i =>
    obtain⟨Z,d⟩:=cp.get U hi;have e2':(σ[i]?).join=some v:=aN e2;have e4:σ[i]?=some (some v):=by
     cases q:σ[i]? with
     |none=>rw[q] at e2';cases e2'
     |some z=>rw[q] at e2';cases z with
      |none=>cases e2'
      |some z=>cases e2';rfl
    obtain⟨m,hn,hl⟩:=I.loc;obtain⟨D,O⟩:=hV x d;obtain⟨u,r,l⟩:=hl i x v Z e4 D;refine⟨u,r,.inr ⟨aXb (sc:=scope) (.inr (hu x d)),?_⟩⟩;rcases l with⟨k,_⟩|⟨k,c,e,z⟩
    ·exact absurd k O
    ·obtain⟨G,Y⟩:=cQg (oc:=oc) (c:=s.heap.objs.size+1) (c2 x d);have ee:G=c:=by
      rcases bQa Y with⟨J,_⟩|J
      ·have:=c2 x d;rw[hun x J] at this;cases this
      ·have:=c1 x G J;rw[e] at this;exact(aN this).symm
     subst ee;obtain⟨B,L,hd⟩:=z;exact⟨G,Y,B,kp G B L,hd⟩
 cell:=λx c e=>by
  rcases bQa (show(ocl oc (s.heap.objs.size+1) cl).lookup x=some c from e) with⟨z,rfl⟩|e
  ·subst z;refine⟨none,{cls:=.type "cell",data:=.cell none},?_,rfl⟩;show((s.heap.push _).push _).get? _=_;rw[<- cx s.heap {cls:=.type "dict",data:=.dict #[]}];exact av _ rfl
  ·obtain⟨v,o,ho,hd⟩:=I.cell x c (c1 x c e);exact⟨v,o,kp c o ho,hd⟩
 free:=I.hok.fresh (Nat.le_refl _)
 freeC:=λx c e=>by
  rcases bQa (show(ocl oc (s.heap.objs.size+1) cl).lookup x=some c from e) with⟨z,rfl⟩|e
  ·exact I.hok.fresh (Nat.le_succ _)
  ·exact I.freeC x c (c1 x c e)
 pin:=λp hp=>absurd (show p∈([]:List (Addr×Obj)) from hp) (by simp)
 hok:=I.hok.kept kp
 len:=by
  show(capt is σ).length=N'.length;unfold capt;rw[ae,cp.length]}
def FrC(X:Cx)(pins:List (Addr×Obj))(C:Addr)(H:Hp):Prop:=H C=none/\C≠X.env.locals/\X.s₀.heap.objs.size<=C/\(∀x c,X.env.cells.lookup x=some c->c≠C)/\∀p∈X.pn++pins,p.1≠C
theorem FrC.gone{C:Addr}{h':bj}(f:FrC X pins C H)(I:Inv X pins σ H s)(sb:dI C s.heap h'):Inv X pins σ H {s with heap:=h'} :=
 I.turned (t':=s.toks) (λb o d e=>(sb.2 b d).trans e) f.1 f.2.1 (.inr f.2.2.1) f.2.2.2.1 f.2.2.2.2
theorem comp_gen{elt target iter:Expr}{ifs:List Expr}{gs:List eW}{scope:Scope}{pos:Pos}{N':List Str}{is:List (Option Nat)}{wi:TI}{g:TG}{tt:TT}{tb:Addr->TB}{oc:Option Str}{m:ad->Env->Sem Unit}(hcalm:X.calm=true)(hN:X.N.Nodup)
  (hturn:∀it acc env,eI (.ListComp elt (⟨target,iter,ifs,0⟩::gs) scope pos) 0 it acc env=aZ2 target ifs iter.pos (m acc env) (.compLoop (.ListComp elt (⟨target,iter,ifs,0⟩::gs) scope pos) 0 it acc env) it env)
  (cp:Cap X.N scope N' is) (hi:PI X target iter wi)
  (hg:∀cl C fp s H,PG (aQc X N' scope cl C fp s H oc) target g) (ht:∀cl C fp s H,PTs (aQc X N' scope cl C fp s H oc) ifs tt) (hb:∀cl C fp s H D,PB (aQc X N' scope cl C fp s H oc) (m (.ref D) (gL scope cl C X.env)) (tb D))
  (hcf:∀n acc,eP n scope.names acc=ocl oc n acc) (hpc:∀h,fS h scope.names=ohp oc h)
  (hkind:scope.kind=.function) (hcell:∀y∈scope.names,y.2=.cell->oc=some y.1)
  (hu:∀y∈scope.names,scope.names.lookup y.1=some y.2) (hoc:∀x,oc=some x->scope.names.lookup x=some .cell)
  (hVb:okV scope.names X.env.scope.names=true)
  (hs:∀x,ca iter X.env x=pure x)
  {use:Option (ad->Sem Unit)}{Q:VK}{Qv:ad->aj->Prop}(I:Inv X pins σ H s) (h:cQf is wi g tt tb σ H Q)
  (fin:∀D C H5 s6,Inv X pins σ H5 s6->(∃m,s6.heap.Ns C m)->FrC X pins C H5->Q (.ref D) H5->compPost (aF X.prog X.w) X.A X.xe use Qv (.ref D) C (.ok .next) s6) :
  aH (aF X.prog X.w) X.A (comprehension (.ListComp elt (⟨target,iter,ifs,0⟩::gs) scope pos) scope X.env (firstIterPos (⟨target,iter,ifs,0⟩::gs) pos) (newList []) (firstAsync (⟨target,iter,ifs,0⟩::gs)) (firstIter (⟨target,iter,ifs,0⟩::gs) X.env) use) Qv X.xe s:=by
 have hV:=dXw hVb;have hV':∀x,(x,a8)∈scope.names->Vis X.env.scope x/\X.env.scope.names.lookup x≠some .local:=λx i=>hV (x,.free) i rfl;have hu':∀x,(x,a8)∈scope.names->scope.names.lookup x=some .free:=λx i=>hu (x,.free) i;have j:∀x∈scope.names,x.2=.local->scope.names.lookup x.1=some .local:=λx i hl=>by rw[hu x i,hl]
 obtain⟨cl,G,c1,c2,c3⟩:=aXo (env:=X.env) (scope:=scope) λx i=>I.ok.has x (by
  obtain⟨v,n⟩:=hV' x i;rcases v with v|v|v
  ·exact absurd v n
  ·exact .inl v
  ·exact .inr v)
 have hun:∀x,oc=some x->cl.lookup x=none:=λx i=>by
  cases e:cl.lookup x with
  |none=>rfl
  |some c =>
   have:=hu' x (c3 x c e)
   rw[hoc x i] at this;cases this
 refine wpAny_comprehension_free (use:=use) rfl hs G hkind j (thn (hi pins s σ H _ I h) λv s1 h1=>thn h1 λitv s2 h2=>?_);obtain⟨it,fp,tn,J,H2,rfl,I2,T,st2,f2,q2⟩:=h2;refine bz ?_;have hD:H2 s2.heap.objs.size=none:=I2.hok.fresh (Nat.le_refl _);have fpl:∀b∈fp,b<s2.heap.objs.size:=λb hb=>by obtain⟨o,e,_⟩:=T.obj _ _ st2 b hb;exact aB e
 have L:Inv X pins σ (upd H2 s2.heap.objs.size (.lst [])) {s2 with heap:=s2.heap.push {cls:=.type "list",dict:=none,data:=.seq ([]:List ad).toArray}} :=
  I2.laid (t':=s2.toks) (λb u e=>ah _ e) (Nat.le_refl _) ⟨Nat.zero_le _,[],0,.nil,av _ rfl⟩
 have Z:tn 0 (s2.heap.push {cls:=.type "list",dict:=none,data:=.seq ([]:List ad).toArray}):=T.keep _ _ _ st2 λb hb o e=>ah _ e;have O:∀b∈fp,FpOk X pins (upd H2 s2.heap.objs.size (.lst [])) b:=λb hb=>⟨by rw[upd_ne (Nat.ne_of_lt (fpl b hb))];exact(f2 b hb).1,(f2 b hb).2⟩
 have B:∀b∈fp,b<(s2.heap.push {cls:=.type "list",dict:=none,data:=.seq ([]:List ad).toArray}).objs.size:=λb hb=>by rw[cx];exact Nat.lt_succ_of_lt (fpl b hb)
 have q3:=q2 _ hD;generalize hDe:s2.heap.objs.size=D at *
 generalize hs3:({s2 with heap:=s2.heap.push {cls:=.type "list",dict:=none,data:=.seq ([]:List ad).toArray}}:aj)=s3 at *
 have hsh:s3.heap=s2.heap.push {cls:=.type "list",dict:=none,data:=.seq ([]:List ad).toArray}:=by rw[<- hs3]
 rw[<- hsh] at Z B;have ok:=bZ4 (N':=N') (cl:=cl) (oc:=oc) L O B hkind c1 c2 hcell hun;have I4:=bQb L ok hN c1 c2 hu' cp hV' hun;refine cXs ?_;rw[hcf,hpc];have kp:∀b o,s3.heap.get? b=some o->(ohp oc (s3.heap.push {cls:=.type "dict",data:=.dict #[]})).get? b=some o:=λb o e=>aJw (ah _ e);have Y:tn 0 (ohp oc (s3.heap.push {cls:=.type "dict",data:=.dict #[]})):=T.keep _ _ _ Z λb _ o e=>kp b o e;have f4:∀b∈fp,FpOk (aQc X N' scope (ocl oc (s3.heap.objs.size+1) cl) s3.heap.objs.size fp s3 (upd H2 D (.lst [])) oc) [] (upd H2 D (.lst [])) b:=λb hb =>
  ⟨(O b hb).1,(ok.exf b hb).1,ok.exfs b hb,.inl hb,(ok.exf b hb).2,λp hp=>absurd (show p∈([]:List (Addr×Obj)) from hp) (by simp)⟩
 have loop:=bZi (X:=aQc X N' scope (ocl oc (s3.heap.objs.size+1) cl) s3.heap.objs.size fp s3 (upd H2 D (.lst [])) oc) (e:=.ListComp elt (⟨target,iter,ifs,0⟩::gs) scope pos) (d:=0) (acc:=.ref D)
  (R:=compPost (aF X.prog X.w) X.A X.xe use Qv (.ref D) s3.heap.objs.size) hcalm rfl (hturn _ _ _) rfl rfl T (hg _ _ _ _ _) (ht _ _ _ _ _) (hb _ _ _ _ _ D) I4 Y f4 q3 (by
   intro H5 s6 U _ qn;obtain⟨m6,n6,_⟩:=id U.loc;have un:Un (frs X.stack) fp (upd H2 D (.lst [])) H5 s3.heap s6.heap:=U.base;have hok':HOk X.prog X.w H5 s6.heap:=U.hok;refine fin D s3.heap.objs.size H5 s6 (L.call' (s':=s6) (ch:=fp) U.os un hok' U.bare λb hb=>⟨(O b hb).2.2.2.1,(O b hb).2.1,(O b hb).2.2.2.2.1,(O b hb).2.2.2.2.2⟩) ⟨m6,n6⟩ ⟨U.free,Nat.ne_of_gt L.lt,L.sz,λx c e z=>?_,λp hp z=>?_⟩ qn
   ·obtain⟨v,q⟩:=L.cell x c e;exact absurd q.lt (by rw[z];exact Nat.lt_irrefl _)
   ·exact absurd (aB (L.pin p hp).1) (by rw[z];exact Nat.lt_irrefl _))
 exact codeAny_compStart_list loop (T.self _ 0 _ _ _ Y loop)
theorem dZ7{elt target iter:Expr}{ifs:List Expr}{gs:List eW}{scope:Scope}{pos:Pos}{N':List Str}{is:List (Option Nat)}{wi:TI}{g:TG}{tt:TT}{tb:Addr->TB}{oc:Option Str}{m:ad->Env->Sem Unit}(hcalm:X.calm=true)(hN:X.N.Nodup)
  (hturn:∀it acc env,eI (.ListComp elt (⟨target,iter,ifs,0⟩::gs) scope pos) 0 it acc env=aZ2 target ifs iter.pos (m acc env) (.compLoop (.ListComp elt (⟨target,iter,ifs,0⟩::gs) scope pos) 0 it acc env) it env)
  (cp:Cap X.N scope N' is) (hi:PI X target iter wi)
  (hg:∀cl C fp s H,PG (aQc X N' scope cl C fp s H oc) target g) (ht:∀cl C fp s H,PTs (aQc X N' scope cl C fp s H oc) ifs tt) (hb:∀cl C fp s H D,PB (aQc X N' scope cl C fp s H oc) (m (.ref D) (gL scope cl C X.env)) (tb D))
  (hcf:∀n acc,eP n scope.names acc=ocl oc n acc:=by intro _ _;rfl) (hpc:∀h,fS h scope.names=ohp oc h:=by intro _;rfl)
  (hkind:scope.kind=.function:=by rfl) (hcell:∀y∈scope.names,y.2=.cell->oc=some y.1:=by decide +kernel)
  (hu:∀y∈scope.names,scope.names.lookup y.1=some y.2:=by decide +kernel) (hoc:∀x,oc=some x->scope.names.lookup x=some .cell:=by intro x h;cases h <;> rfl)
  (hVb:okV scope.names X.env.scope.names=true:=by first|rfl|kernel_rfl)
  (hs:∀x,ca iter X.env x=pure x:=by intro _;rfl) :
  PE X (.ListComp elt (⟨target,iter,ifs,0⟩::gs) scope pos) (cQf is wi g tt tb):=by
 intro pins s σ H Q I h;rw[eval_ListComp];refine comp_gen hcalm hN hturn cp hi hg ht hb hcf hpc hkind hcell hu hoc hVb hs I h λD C G J B ⟨m,n⟩ j i=>?_;exact⟨m,n,λh' d=>⟨.ref D,G,j.gone B d,rfl,i⟩⟩
theorem eQs{x:Str}{i:Nat}{pos' spos:Pos}(hix:X.N[i]?=some x)(hx:Loc X.env.scope x){elt target iter:Expr}{ifs:List Expr}{gs:List eW}{scope:Scope}{pos:Pos}{N':List Str}{is:List (Option Nat)}{wi:TI}{g:TG}{tt:TT}{tb:Addr->TB}{oc:Option Str}{m:ad->Env->Sem Unit}(hcalm:X.calm=true)(hN:X.N.Nodup)
  (hturn:∀it acc env,eI (.ListComp elt (⟨target,iter,ifs,0⟩::gs) scope pos) 0 it acc env=aZ2 target ifs iter.pos (m acc env) (.compLoop (.ListComp elt (⟨target,iter,ifs,0⟩::gs) scope pos) 0 it acc env) it env)
  (cp:Cap X.N scope N' is) (hi:PI X target iter wi)
  (hg:∀cl C fp s H,PG (aQc X N' scope cl C fp s H oc) target g) (ht:∀cl C fp s H,PTs (aQc X N' scope cl C fp s H oc) ifs tt) (hb:∀cl C fp s H D,PB (aQc X N' scope cl C fp s H oc) (m (.ref D) (gL scope cl C X.env)) (tb D))
  (hcf:∀n acc,eP n scope.names acc=ocl oc n acc:=by intro _ _;rfl) (hpc:∀h,fS h scope.names=ohp oc h:=by intro _;rfl)
  (hkind:scope.kind=.function:=by rfl) (hcell:∀y∈scope.names,y.2=.cell->oc=some y.1:=by decide +kernel)
  (hu:∀y∈scope.names,scope.names.lookup y.1=some y.2:=by decide +kernel) (hoc:∀x,oc=some x->scope.names.lookup x=some .cell:=by intro x h;cases h <;> rfl)
  (hVb:okV scope.names X.env.scope.names=true:=by first|rfl|kernel_rfl)
  (hs:∀x,ca iter X.env x=pure x:=by intro _;rfl)
  (hsw:g7 (.ListComp elt (⟨target,iter,ifs,0⟩::gs) scope pos) (some (.Name x pos')) spos.line X.env=pure true:=by first|rfl|kernel_rfl) (hf:X.fn x=true\/X.env.scope.names.lookup x=some .local:=by first|exact .inl rfl|exact .inr rfl|assumption) :
  PS X (.Assign [.Name x pos'] (.ListComp elt (⟨target,iter,ifs,0⟩::gs) scope pos) spos) (tAsg (cQf is wi g tt tb) (bJc i)):=by
 intro pins s σ H D I h;rw[exec_Assign_Name_used _ _ _ _ hsw];refine aa (fB (aa ?_));show aH _ _ (comprehension _ _ _ _ _ _ _ (some _)>>=λ_=>pure ()) _ _ _;refine aa (comp_gen (Qv:=λ_ s'=>aH (aF X.prog X.w) X.A (pure ()) _ X.xe s') hcalm hN hturn cp hi hg ht hb hcf hpc hkind hcell hu hoc hVb hs I h λE C Y s6 U ⟨m,n⟩ B J=>?_);refine wpAny_assign_Name (bXc U hN hix hx (show RelV (.ref E) (.ref E) from rfl) (λZ O ⟨a,G,L⟩=>?_) hf)
 have j:C≠a:=by
  rintro rfl;rcases L with z|z
  ·exact B.2.1 z
  ·exact B.2.2.2.1 x C z rfl
 refine⟨m,n.sameBut G j,λh' d=>af (af ?_)⟩;exact⟨_,Y,B.gone O d,J⟩
end
end L2
set_option maxHeartbeats 4000000
namespace L2
open PySem PySem.Spec PyProof.Rows
abbrev Dn(α:Type):=Hp->V->α->Prop
abbrev Fg:=ax
def dS:Dn Str:=λ_ v x=>v=.str x
def dB:Dn Bool:=λ_ v b=>v=.bl b
def dT{α:Type}(K:Fg)(R:Dn α):Dn (List α):=λH v ds=>∃a xs,v=.ref a/\SqT K H a xs/\a9 (R H) xs ds
def dL{α:Type}(K:Fg)(R:Dn α):Dn (List α):=λH v ds=>∃a xs,v=.ref a/\SqL K H a xs/\a9 (R H) xs ds
def SameT(H H':Hp):Prop:=∀a xs,Rd H a (.tup xs)->Rd H' a (.tup xs)
theorem Same.t{H H':Hp}(h:Same H H'):SameT H H':=λa xs r=>by
 rcases r with r|⟨o,r⟩
 ·exact .inl (h _ _ r)
 ·exact .inr ⟨o,h _ _ r⟩
theorem aQs{H:Hp}{p:Addr}{o:HO}(h:H p=none):Same H (upd H p o):=λb o' e=>by
 rw[upd_ne (by rintro rfl;rw[h] at e;cases e)];exact e
theorem SqT.stay{K:Fg}{H H':Hp}{a:Addr}{xs:List V}(h:SqT K H a xs)(s:SameT H H'):SqT K H' a xs:=h.elim (λr=>.inl (s a xs r)) .inr
class Im {α:Type}(R:Dn α):Prop where
 im:∀{H H' v d},SameT H H'->R H v d->R H' v d
class Mo {α:Type}(R:Dn α):Prop where
 mo:∀{H H' v d},Same H H'->R H v d->R H' v d
instance (priority:=low) {α:Type}{R:Dn α}[Im R]:Mo R:=⟨λs r=>Im.im s.t r⟩
theorem Paired.imp{α β:Type}{F G:α->β->Prop}(h:∀a b,F a b->G a b):∀{l:List α}{m:List β},a9 F l m->a9 G l m
 |_,_,.nil=>.nil
 |_,_,.cons p q=>.cons (h _ _ p) (Paired.imp h q)
instance:Im dS:=⟨λ_ h=>h⟩
instance {α:Type}{K:Fg}{R:Dn α}[Im R]:Im (dT K R):=⟨λs ⟨a,xs,e,q,p⟩=>⟨a,xs,e,q.stay s,Paired.imp (λ_ _ r=>Im.im s r) p⟩⟩
theorem beq_dec{α:Type}[DecidableEq α][BEq α][LawfulBEq α](a b:α):(a==b)=decide (a=b):=by
 by_cases h:a=b
 ·subst h;simp
 ·simp[h]
theorem Paired.get'{α β:Type}{F:α->β->Prop}:∀{l:List α}{m:List β}{i:Nat}{a:α},a9 F l m->l[i]?=some a->∃b,m[i]?=some b/\F a b
 |_,_,_,_,.nil,h=>by simp at h
 |_,_,0,_,.cons p _,h=>by simp at h;subst h;exact⟨_,rfl,p⟩
 |_,_,i+1,a,.cons _ q,h=>by
  obtain⟨b,e,f⟩:=Paired.get' (i:=i) (a:=a) q (by simpa using h)
  exact⟨b,by simpa using e,f⟩
theorem fQr{α:Type}[DecidableEq α]:∀(ds es:List α),((aI (min ds.length es.length)).all λj=>decide (ds[j]?=es[j]?))=true->ds.length=es.length->ds=es:=λds es h hl=>by
 apply gM;intro i
 by_cases hi:i<ds.length
 ·have:=bB.mp h i (bo.mpr (by lia))
  exact of_decide_eq_true this
 ·rw[bY (by lia),bY (by lia)]
theorem cXt{α:Type}[DecidableEq α](ds es:List α)(n m:Nat)(hn:n=ds.length)(hm:m=es.length):((aI (min n m)).all (λj=>decide (ds[j]?=es[j]?))&&(n==m))=decide (ds=es):=by
 subst hn;subst hm
 by_cases h:ds=es
 ·subst h;simp
 ·rw[decide_eq_false h,Bool.and_eq_false_iff]
  by_cases hl:ds.length=es.length
  ·left
   cases q:(aI (min ds.length es.length)).all λj=>decide (ds[j]?=es[j]?) with
   |false=>rfl
   |true=>exact absurd (fQr ds es q hl) h
  ·right;simpa using hl
variable{α β γ:Type}
end L2
namespace ST
open PySem PySem.SetTable
def step(mask:Nat)(p:Probe):Probe :=
 if p.more>0 then {p with j:=p.j+1,more:=p.more-1} else
 {p with j:=(leap mask p.i p.perturb).1,more:=runEnd mask (leap mask p.i p.perturb).1-(leap mask p.i p.perturb).1,i:=(leap mask p.i p.perturb).1,perturb:=(leap mask p.i p.perturb).2}
theorem bZ5(t:aZ)(p:Probe):t.advance p=step t.mask p:=by
 unfold aZ.advance step
 split <;> rfl
def road(mask:Nat):Nat->Probe->Probe
 |0,p=>p
 |m+1,p=>road mask m (step mask p)
theorem bQc(mask:Nat):∀(m:Nat) (p:Probe),road mask (m+1) p=step mask (road mask m p)
 |0,_=>rfl
 |m+1,p=>by
  show road mask (m+1) (step mask p)=step mask (road mask m (step mask p));exact bQc mask m (step mask p)
theorem aQy(mask:Nat):∀(a b:Nat) (p:Probe),road mask (a+b) p=road mask b (road mask a p)
 |0,b,p=>by rw[Nat.zero_add];rfl
 |a+1,b,p=>by
  rw[Nat.add_right_comm];show road mask (a+b) (step mask p)=road mask b (road mask a (step mask p));exact aQy mask a b _
theorem bZ6(mask:Nat)(p:Probe):(step mask p).dummy=p.dummy:=by unfold step;split <;> rfl
theorem bQd(mask i:Nat)(h:i<=mask):i<=runEnd mask i/\runEnd mask i<=mask/\runEnd mask i<=i+9:=by
 unfold runEnd;split <;> lia
structure PV(mask:Nat)(p:Probe):Prop where
 more:p.more<=9
 i:p.i<=mask
 j:p.j+p.more<=mask
 pt:p.perturb<2^64
theorem bJg(mask i pt:Nat):(leap mask i pt).1<=mask:=by
 unfold leap
 have:=Nat.mod_lt (i*5+1+pt/32) (show 0<mask+1 by lia)
 show(i*5+1+pt/32)%(mask+1)<=mask;lia
theorem PV.step{mask:Nat}{p:Probe}(v:PV mask p):PV mask (ST.step mask p):=by
 unfold ST.step;have h1:=v.more;have h2:=v.i;have B:=v.j;have d:=v.pt
 split
 ·exact⟨by dsimp only;lia,h2,by dsimp only;lia,d⟩
 ·have l:=bJg mask p.i p.perturb;have r:=bQd mask _ l;refine⟨by dsimp only;lia,l,by dsimp only;lia,?_⟩
  show p.perturb/32<2^64;exact Nat.lt_of_le_of_lt (Nat.div_le_self _ _) d
theorem PV.road{mask:Nat}:∀(m:Nat) {p:Probe},PV mask p->PV mask (ST.road mask m p)
 |0,_,v=>v
 |m+1,_,v=>PV.road m v.step
theorem eQt(h:Int):bits h<2^64:=by
 unfold bits;have h1:=iw h (show(2^64:Int)≠0 by decide)
 have h2:=gx h (show(0:Int)<2^64 by decide)
 have:(2:Int)^64=18446744073709551616:=by decide
 have:(2:Nat)^64=18446744073709551616:=by decide
 lia
def start(mask:Nat)(h:Int):Probe:={j:=bits h%(mask+1),more:=runEnd mask (bits h%(mask+1))-bits h%(mask+1),i:=bits h%(mask+1),perturb:=bits h,dummy:=none}
theorem aXw(mask:Nat)(h:Int):PV mask (start mask h):=by
 have l:bits h%(mask+1)<=mask:=Nat.le_of_lt_succ (Nat.mod_lt _ (Nat.succ_pos mask));have r:=bQd mask _ l;exact⟨by show _-_<=9;lia,l,by show bits h%(mask+1)+(runEnd mask (bits h%(mask+1))-bits h%(mask+1))<=mask;lia,eQt h⟩
theorem cXu(mask:Nat):∀(k:Nat) (p:Probe),k<=p.more->road mask k p={p with j:=p.j+k,more:=p.more-k}
 |0,p,_=>rfl
 |k+1,p,h=>by
  show road mask k (step mask p)=_;have e:step mask p={p with j:=p.j+1,more:=p.more-1}:=by unfold step;rw[if_pos (by lia)]
  rw[e,cXu mask k _ (by show k<=p.more-1;lia)]
  show({j:=p.j+1+k,more:=p.more-1-k,i:=p.i,perturb:=p.perturb,dummy:=p.dummy}:Probe)={j:=p.j+(k+1),more:=p.more-(k+1),i:=p.i,perturb:=p.perturb,dummy:=p.dummy};rw[show p.j+1+k=p.j+(k+1) by lia,show p.more-1-k=p.more-(k+1) by lia]
theorem cXv(mask:Nat)(p:Probe):road mask (p.more+1) p={p with j:=(leap mask p.i p.perturb).1,more:=runEnd mask (leap mask p.i p.perturb).1-(leap mask p.i p.perturb).1,i:=(leap mask p.i p.perturb).1,perturb:=(leap mask p.i p.perturb).2}:=by
 rw[bQc,cXu mask p.more p (Nat.le_refl _)];unfold step;rw[if_neg (by show ¬ p.more-p.more>0;lia)]
def aZq(mask:Nat):Nat->Nat×Nat->Nat×Nat
 |0,s=>s
 |l+1,s=>aZq mask l (leap mask s.1 s.2)
theorem aZw(mask:Nat):∀(l:Nat) (s:Nat×Nat),aZq mask (l+1) s=leap mask (aZq mask l s).1 (aZq mask l s).2
 |0,_=>rfl
 |l+1,s=>by
  show aZq mask (l+1) (leap mask s.1 s.2)=_;exact aZw mask l _
theorem bZj(mask:Nat):∀(l:Nat) (s:Nat×Nat),(aZq mask l s).2=s.2/32^l
 |0,s=>by simp[aZq]
 |l+1,s=>by
  rw[aZw];show(aZq mask l s).2/32=_;rw[bZj mask l s,Nat.div_div_eq_div_mul,Nat.pow_succ]
theorem far(mask:Nat):∀(l:Nat) (p:Probe),PV mask p->∃m,m<=10*l/\(road mask m p).i=(aZq mask l (p.i,p.perturb)).1/\(road mask m p).perturb=(aZq mask l (p.i,p.perturb)).2/\(0<l->(road mask m p).j=(road mask m p).i)
 |0,p,_=>⟨0,Nat.le_refl _,rfl,rfl,λh=>absurd h (Nat.lt_irrefl _)⟩
 |l+1,p,v=>by
  obtain⟨m,h1,h2,B,D⟩:=far mask l p v;have d:=PV.road m v;refine⟨m+((road mask m p).more+1),?_,?_⟩
  ·have:=d.more;lia
  ·rw[aQy,cXv,aZw,<- h2,<- B];exact⟨rfl,rfl,λ_=>rfl⟩
def f5(N x:Nat):Nat:=(x*5+1)%N
def f5s(N:Nat):Nat->Nat->Nat
 |0,x=>x
 |a+1,x=>f5s N a (f5 N x)
theorem bZk(N:Nat):∀(a b x:Nat),f5s N (a+b) x=f5s N b (f5s N a x)
 |0,b,x=>by rw[Nat.zero_add];rfl
 |a+1,b,x=>by rw[Nat.add_right_comm];exact bZk N a b _
def eQu(N:Nat):Nat->Nat->List Nat->List Nat
 |0,_,acc=>acc
 |a+1,x,acc=>eQu N a (f5 N x) (x::acc)
theorem bXi(N:Nat):∀(a x:Nat) (acc:List Nat) (y:Nat),y∈eQu N a x acc->y∈acc\/∃b,b<a/\f5s N b x=y
 |0,_,_,_,h=>.inl h
 |a+1,x,acc,y,h=>by
  rcases bXi N a (f5 N x) (x::acc) y h with h|⟨b,d,e⟩
  ·rcases aA.mp h with h|h
   ·exact .inr ⟨0,Nat.succ_pos _,h.symm⟩
   ·exact .inl h
  ·exact .inr ⟨b+1,Nat.succ_lt_succ d,e⟩
def Full(N:Nat):Prop:=f5s N N 0=0/\∀y,y<N->∃b,b<N/\f5s N b 0=y
theorem bZl{N:Nat}(h:(f5s N N 0==0&&(aI N).all λy=>(eQu N N 0 []).contains y)=true):Full N:=by
 simp only[aL,beq_iff_eq,bB,bo] at h;refine⟨h.1,λy d=>?_⟩;have q:=h.2 y d;rcases bXi N N 0 [] y (by simpa using q) with z|z
 ·cases z
 ·exact z
theorem Full.from{N:Nat}(F:Full N){x y:Nat}(hx:x<N)(hy:y<N):∃a,a<N/\f5s N a x=y:=by
 obtain⟨b,B,i⟩:=F.2 x hx;obtain⟨c,j,d⟩:=F.2 y hy
 by_cases h:b<=c
 ·refine⟨c-b,by lia,?_⟩
  rw[<- i,<- bZk,show b+(c-b)=c by lia,d]
 ·refine⟨N-b+c,by lia,?_⟩
  rw[<- i,<- bZk,show b+(N-b+c)=N+c by lia,bZk,F.1,d]
theorem fJv:Full 8:=bZl (by decide +kernel)
theorem fQs:Full 32:=bZl (by decide +kernel)
theorem eQv:Full 128:=bZl (by decide +kernel)
theorem eQw:Full 512:=bZl (by decide +kernel)
def Mask(mask:Nat):Prop:=mask=7\/mask=31\/mask=127\/mask=511
theorem Mask.full{mask:Nat}(h:Mask mask):Full (mask+1):=by
 rcases h with rfl|rfl|rfl|rfl
 ·exact fJv
 ·exact fQs
 ·exact eQv
 ·exact eQw
theorem bZm{mask:Nat}:∀(a:Nat) (s:Nat×Nat),s.2<32->(aZq mask a s).1=f5s (mask+1) a s.1
 |0,_,_=>rfl
 |a+1,s,h=>by
  show(aZq mask a (leap mask s.1 s.2)).1=f5s (mask+1) a (f5 (mask+1) s.1);have e:s.2/32=0:=Nat.div_eq_of_lt h;have d:(leap mask s.1 s.2).1=f5 (mask+1) s.1:=by
   show(s.1*5+1+s.2/32)%(mask+1)=_;rw[e];rfl
  rw[bZm a _ (by show s.2/32<32;lia),d]
theorem bQe(mask:Nat):∀(a b:Nat) (s:Nat×Nat),aZq mask (a+b) s=aZq mask b (aZq mask a s)
 |0,b,s=>by rw[Nat.zero_add];rfl
 |a+1,b,s=>by rw[Nat.add_right_comm];exact bQe mask a b _
theorem fQt{mask:Nat}(hm:Mask mask){p:Probe}(v:PV mask p){y:Nat}(hy:y<=mask):∃m,m<10*(mask+15)/\(road mask m p).j=y:=by
 have d:(aZq mask 12 (p.i,p.perturb)).1<mask+1:=by
  rw[aZw mask 11];exact Nat.lt_succ_of_le (bJg _ _ _)
 have B:(aZq mask 12 (p.i,p.perturb)).2<32:=by
  rw[bZj]
  have:=v.pt
  show p.perturb/32^12<32;have e:(2:Nat)^64=18446744073709551616:=by decide
  have J:(32:Nat)^12=1152921504606846976:=by decide
  rw[J];lia
 obtain⟨a,L,G⟩:=hm.full.from d (Nat.lt_succ_of_le hy)
 obtain⟨m,h1,h2,_,D⟩:=far mask (12+a) p v;refine⟨m,by lia,?_⟩
 rw[D (by lia),h2,bQe,bZm a _ B,G]
def Ris(xs:List Nat):Prop:=xs.Pairwise (· < ·)
theorem bZn(xs:Array Nat)(j:Nat)(hr:Ris xs.toList):∀(fuel lo hi:Nat),hi-lo<=fuel->lo<=hi->hi<=xs.size->(∀i,i<lo->xs.getD i j<j)->(∀i,hi<=i->i<xs.size->j<=xs.getD i j) ->
  below.go xs j fuel lo hi<=xs.size/\(∀i,i<below.go xs j fuel lo hi->xs.getD i j<j)/\∀i,below.go xs j fuel lo hi<=i->i<xs.size->j<=xs.getD i j
 |0,lo,hi,hf,hl,D,h1,h2=>by
  have e:lo=hi:=by lia
  subst e;exact⟨D,h1,h2⟩
 |fuel+1,lo,hi,hf,hl,D,h1,h2=>by
  unfold below.go
  by_cases d:lo<hi
  ·rw[if_pos d];have mlt:(lo+hi)/2<xs.size:=by lia
   have mono:∀a b,a<=b->b<xs.size->xs.getD a j<=xs.getD b j:=λa b O J=>by
    rcases Nat.lt_or_eq_of_le O with h|h
    ·have q:=(bZ.mp hr) a b (by simpa using Nat.lt_trans h J) (by simpa using J) h
     simp only[hJ,J,Nat.lt_trans h J,dif_pos];simpa using Nat.le_of_lt q
    ·subst h;exact Nat.le_refl _
   show(if xs.getD ((lo+hi)/2) j<j then _ else _)<=_/\_
   by_cases G:xs.getD ((lo+hi)/2) j<j
   ·simp only[G,if_true];exact bZn xs j hr fuel _ hi (by lia) (by lia) D (λi B=>Nat.lt_of_le_of_lt (mono i ((lo+hi)/2) (by lia) mlt) G) h2
   ·simp only[G,if_false];exact bZn xs j hr fuel lo _ (by lia) (by lia) (by lia) h1 (λi B L=>Nat.le_trans (Nat.le_of_not_lt G) (mono _ i B L))
  ·rw[if_neg d];have e:lo=hi:=by lia
   subst e;exact⟨D,h1,h2⟩
theorem bZ7{xs:Array Nat}(hr:Ris xs.toList)(j:Nat):below xs j<=xs.size/\(∀i,i<below xs j->xs.getD i j<j)/\∀i,below xs j<=i->i<xs.size->j<=xs.getD i j :=
 bZn xs j hr xs.size 0 xs.size (by lia) (by lia) (Nat.le_refl _) (λi h=>absurd h (Nat.not_lt_zero _)) (λi h h'=>absurd h' (Nat.not_lt.mpr h))
theorem dZ8{xs:Array Nat}(hr:Ris xs.toList){i j:Nat}(h:xs[i]?=some j):below xs j=i:=by
 obtain⟨hi,e⟩:=dJ.mp h;obtain⟨Z,J,G⟩:=bZ7 hr j;have Y:∀k,k<xs.size->xs.getD k j=xs.getD k 0:=λk D=>by simp[hJ,D]
 have U:xs.getD i j=j:=by simp[hJ,hi,e]
 have inc:∀a b,a<b->b<xs.size->xs.getD a j<xs.getD b j:=λa b d B=>by
  have q:=(bZ.mp hr) a b (by simpa using Nat.lt_trans d B) (by simpa using B) d
  simp only[hJ,B,Nat.lt_trans d B,dif_pos];simpa using q
 rcases Nat.lt_trichotomy (below xs j) i with h|h|h
 ·have O:=inc _ _ h hi;have L:=G _ (Nat.le_refl _) (Nat.lt_trans h hi);lia
 ·exact h
 ·have q:=J i h;lia
structure Tab(t:aZ):Prop where
 mask:Mask t.mask
 nodum:t.dummies=#[]
 ris:Ris t.place.toList
 top:∀j∈t.place.toList,j<=t.mask
theorem bJh{t:aZ}(T:Tab t){j i:Nat}(h:t.place[i]?=some j):t.slot j=.live i:=by
 unfold aZ.slot;dsimp only;rw[dZ8 T.ris h,h];simp
theorem cXw{t:aZ}(T:Tab t){j:Nat}(h:j∉t.place.toList):t.slot j=.empty:=by
 unfold aZ.slot;dsimp only;have e:(t.place[below t.place j]?==some j)=false:=by
  cases q:t.place[below t.place j]?==some j with
  |false=>rfl
  |true =>
   have:=g9 q
   obtain⟨hi,e⟩:=dJ.mp this;exact absurd (by rw[<- e];simp) h
 rw[e];simp only[aS,if_false];have d:has t.dummies j=false:=by rw[T.nodum];unfold has;simp
 rw[d];simp
theorem cZu{t:aZ}(T:Tab t)(j:Nat):(∃i,t.slot j=.live i/\t.place[i]?=some j)\/(t.slot j=.empty/\j∉t.place.toList):=by
 by_cases h:j∈t.place.toList
 ·obtain⟨i,hi,e⟩:=bn h;have q:t.place[i]?=some j:=by
   rw[dJ];exact⟨by simpa using hi,by simpa using e⟩
  exact .inl ⟨i,bJh T q,q⟩
 ·exact .inr ⟨cXw T h,h⟩
theorem cXx{t:aZ}(T:Tab t)(hashAt:Nat->Int)(h:Int):∀(fuel:Nat) (p:Probe),p.dummy=none->(∃m,m<fuel/\(road t.mask m p).j∉t.place.toList) ->
    ∃m,m<fuel/\(∀m',m'<m->∃i,t.place[i]? =some (road t.mask m' p).j/\hashAt i≠h) /\
      (((road t.mask m p).j ∉ t.place.toList /\ probe.go t hashAt h fuel p=some (.empty (road t.mask m p).j none)) \/
       ∃i,t.place[i]? =some (road t.mask m p).j/\t.slot (road t.mask m p).j=.live i/\hashAt i=h/\probe.go t hashAt h fuel p=some (.candidate (road t.mask m p).j i (road t.mask (m+1) p)))
  |0,p,_,⟨m,hm,_⟩ =>absurd hm (Nat.not_lt_zero _)
  |fuel+1,p,hd,⟨m,hm,hf⟩ =>by
    unfold probe.go;rcases cZu T p.j with⟨i,e,q⟩|⟨e,q⟩
    · rw [e]
      dsimp only
      by_cases d:hashAt i=h
      · refine⟨0,Nat.succ_pos _,λ_ h' =>absurd h' (Nat.not_lt_zero _),.inr ⟨i,q,e,d,?_⟩⟩
        rw [if_pos (by simpa using d),bZ5]
        rfl
      · rw [if_neg (by simpa using d),bZ5]
        cases m with
        |zero =>exact absurd (dz.mpr (fD q)) hf
        |succ m =>
          obtain⟨B,h1,h2,G⟩:=cXx T hashAt h fuel (step t.mask p) (by rw [bZ6]; exact hd) ⟨m,by lia,hf⟩
          refine⟨B+1,by lia,λm' D =>?_,G⟩
          cases m' with
          |zero =>exact⟨i,q,d⟩
          |succ m' =>exact h2 m' (by lia)
    · rw [e]
      exact⟨0,Nat.succ_pos _,λ_ h' =>absurd h' (Nat.not_lt_zero _),.inl ⟨q,by rw [hd]; rfl⟩⟩
theorem bZ8{t:aZ}(T:Tab t)(hn:t.place.size<=t.mask):∃y,y<=t.mask/\y∉t.place.toList:=by
 apply aX;intro i;have all:∀y,y<t.mask+1->y∈t.place.toList:=λy d=>aX λh=>i ⟨y,Nat.le_of_lt_succ d,h⟩;have hl:(aI (t.mask+1)).length<=t.place.toList.length:=by
  apply jV.length_le_of_subset jC;intro y d;exact all y (bo.mp d)
 rw[dh] at hl
 have:t.place.toList.length=t.place.size:=by simp
 lia
theorem cZv{t:aZ}(T:Tab t)(hn:t.place.size<=t.mask)(hashAt:Nat->Int)(h:Int){p:Probe}(v:PV t.mask p)(hd:p.dummy=none) :
    ∃m,(∀m',m'<m->∃i,t.place[i]? =some (road t.mask m' p).j/\hashAt i≠h) /\
      (((road t.mask m p).j ∉ t.place.toList /\ t.probe hashAt h p=some (.empty (road t.mask m p).j none)) \/
       ∃i,t.place[i]? =some (road t.mask m p).j/\t.slot (road t.mask m p).j=.live i/\hashAt i=h/\t.probe hashAt h p=some (.candidate (road t.mask m p).j i (road t.mask (m+1) p))):=by
  obtain⟨y,B,hf⟩:=bZ8 T hn;obtain⟨m,hm,e⟩:=fQt T.mask v B;obtain⟨d,_,h2,D⟩:=cXx T hashAt h (10*turns t.mask) p hd ⟨m,hm,by rw [e]; exact hf⟩
  exact⟨d,h2,D⟩
end ST
set_option autoImplicit false
namespace ST
open PySem PySem.SetTable
theorem aXx{α:Type}(xs:Array α)(p:Nat)(x:α)(h:p<=xs.size):(insertAt xs p x).toList=xs.toList.take p++x::xs.toList.drop p:=by
 unfold insertAt;simp only[bM,cy,Array.toList_extract,a6,List.singleton_append];simp only[List.extract,iT,Nat.sub_zero];rw[bI (l:=List.drop p xs.toList) (by simp)]
theorem aXj{α:Type}{l:List α}{p i:Nat}{x y:α}(hp:p<=l.length)(h:(l.take p++x::l.drop p)[i]?=some y):(i<p/\l[i]?=some y)\/(i=p/\y=x)\/(p<i/\l[i-1]?=some y):=by
 have hl:(l.take p).length=p:=by rw[aK];lia
 rcases Nat.lt_trichotomy i p with c|c|c
 ·left
  rw[dU (by lia),f8 c] at h
  exact⟨c,h⟩
 ·right;left
  subst c;rw[cf (by lia),hl,Nat.sub_self] at h
  simp at h;exact⟨rfl,h.symm⟩
 ·right;right
  rw[cf (by lia),hl] at h
  rw[show i-p=(i-1-p)+1 by lia,jD,iU] at h
  rw[show p+(i-1-p)=i-1 by lia] at h
  exact⟨c,h⟩
structure SetI(es:Array (Int×ad))(t:aZ):Prop where
 tab:Tab t
 size:t.place.size=es.size
 room:es.size*5<t.mask*3
 reach:∀(i j:Nat) (e:Int×ad),t.place[i]?=some j->es[i]?=some e->∃r,(road t.mask r (start t.mask e.1)).j=j/\∀r',r'<r->(road t.mask r' (start t.mask e.1)).j∈t.place.toList
theorem SetI.le{es:Array (Int×ad)}{t:aZ}(I:SetI es t):t.place.size<=t.mask:=by have:=I.size;have:=I.room;lia
theorem SetI.fits{es:Array (Int×ad)}{t:aZ}(I:SetI es t):t.fits es.size=true:=by
 unfold ky kz;rw[I.tab.nodum,I.size]
 have:=I.room
 simp only[aL,beq_iff_eq,decide_eq_true_eq];refine⟨trivial,?_⟩;simp;lia
theorem SetI.way{es:Array (Int×ad)}{t:aZ}(I:SetI es t):t.gaveWay=false:=by
 unfold aZ.gaveWay;rcases I.tab.mask with e|e|e|e <;> rw[e] <;> rfl
theorem fresh_ok(f m:Nat)(led:Bool):SetI #[] (kg f m led) where
 tab:=⟨.inl rfl,rfl,.nil,λj h=>by simp[kg] at h⟩
 size:=rfl
 room:=by show 0*5<7*3;decide
 reach:=λi j e h=>by simp[kg] at h
structure Put(t t':aZ)(j p:Nat):Prop where
 tab:Tab t'
 mask:t'.mask=t.mask
 le:p<=t.place.size
 place:t'.place.toList=t.place.toList.take p++j::t.place.toList.drop p
theorem fQu{t:aZ}(T:Tab t){j:Nat}(hj:j<=t.mask)(hf:j∉t.place.toList):Put t (t.put j).1 j (t.put j).2:=by
 obtain⟨U,b2,Z⟩:=bZ7 T.ris j;have e:(t.put j).1.place.toList=t.place.toList.take (below t.place j)++j::t.place.toList.drop (below t.place j):=aXx _ _ _ U;have Y:(t.put j).1.dummies=#[]:=by
  show(if has t.dummies j=true then _ else t.dummies)=#[]
  have q:has t.dummies j=false:=by rw[T.nodum];unfold has;simp
  rw[q];simp[T.nodum]
 refine⟨⟨T.mask,Y,?_,?_⟩,rfl,U,e⟩
 ·unfold Ris;rw[e,bA,bb];have L:=T.ris;unfold Ris at L;have D:∀a∈t.place.toList.take (below t.place j),a<j:=λa d=>by
   obtain⟨i,hi,J⟩:=bn d;rw[aK] at hi;have B:i<t.place.size:=by (have:t.place.toList.length=t.place.size:=by simp);lia
   have q:=b2 i (by lia)
   simp only[hJ,B,dif_pos] at q;rw[gN] at J;rw[<- J];simpa using q
  have G:∀a∈t.place.toList.drop (below t.place j),j<a:=λa d=>by
   obtain⟨i,hi,J⟩:=bn d;rw[bf] at hi;have hl:t.place.toList.length=t.place.size:=by simp
   have B:below t.place j+i<t.place.size:=by lia
   have q:=Z (below t.place j+i) (by lia) B
   simp only[hJ,B,dif_pos] at q;rw[gO] at J;have ne:a≠j:=λz=>hf (by rw[<- z];exact cM d)
   have q':j<=a:=by rw[<- J];simpa using q
   lia
  refine⟨L.sublist (gF _ _),⟨G,L.sublist (ji _ _)⟩,λa d b O=>?_⟩;rcases aA.mp O with rfl|O
  ·exact D a d
  ·exact Nat.lt_trans (D a d) (G b O)
 ·intro a d;rw[e] at d;rcases aJ.mp d with d|d
  ·exact T.top a (cz d)
  ·rcases aA.mp d with rfl|d
   ·exact hj
   ·exact T.top a (cM d)
theorem put_set{es:Array (Int×ad)}{t:aZ}(I:SetI es t){j r:Nat}{h:Int}{x:ad}(hj:j<=t.mask)(hf:j∉t.place.toList)(e:(road t.mask r (start t.mask h)).j=j)(hr:∀r',r'<r->(road t.mask r' (start t.mask h)).j∈t.place.toList) :
  ∀b,(insertAt es (t.put j).2 (h,x)).toList=es.toList.take (t.put j).2++(h,x)::es.toList.drop (t.put j).2/\(insertAt es (t.put j).2 (h,x)).size=es.size+1 /\
   Tab { (t.put j).1 with plain:=b}/\(t.put j).1.place.size=es.size+1/\(t.put j).1.mask=t.mask /\
   ∀(i j':Nat) (e':Int×ad),(t.put j).1.place[i]?=some j'->(insertAt es (t.put j).2 (h,x))[i]?=some e'->∃r,(road t.mask r (start t.mask e'.1)).j=j'/\∀r',r'<r->(road t.mask r' (start t.mask e'.1)).j∈(t.put j).1.place.toList:=by
 intro b;have P:=fQu I.tab hj hf;have hle:(t.put j).2<=es.size:=by rw[<- I.size];exact P.le
 have el:=aXx es (t.put j).2 (h,x) hle;have sz:(insertAt es (t.put j).2 (h,x)).size=es.size+1:=by
  have q:=congrArg fj el;rw[ar,aT,aK,bf] at q
  have:es.toList.length=es.size:=by simp
  rw[show(insertAt es (t.put j).2 (h,x)).toList.length=(insertAt es (t.put j).2 (h,x)).size by simp] at q
  lia
 have U:(t.put j).1.place.size=es.size+1:=by
  have q:=congrArg fj P.place;rw[ar,aT,aK,bf] at q
  have:t.place.toList.length=t.place.size:=by simp
  have:=I.size
  have:=P.le
  rw[show(t.put j).1.place.toList.length=(t.put j).1.place.size by simp] at q
  lia
 refine⟨el,sz,⟨P.tab.mask,P.tab.nodum,P.tab.ris,P.tab.top⟩,U,P.mask,λi j' e' h1 h2=>?_⟩;have sub:∀a∈t.place.toList,a∈(t.put j).1.place.toList:=λa L=>by
  rw[P.place];rw[<- bQ (t.put j).2 t.place.toList] at L;rcases aJ.mp L with L|L
  ·exact b7 _ L
  ·exact bm _ (am _ L)
 have old:∀O,t.place.toList[O]?=some j'->es.toList[O]?=some e'->∃r,(road t.mask r (start t.mask e'.1)).j=j'/\∀r',r'<r->(road t.mask r' (start t.mask e'.1)).j∈(t.put j).1.place.toList:=λO a b=>by
  obtain⟨r,D,d⟩:=I.reach O j' e' (by rw[<- a7];exact a) (by rw[<- a7];exact b)
  exact⟨r,D,λr' G=>sub _ (d r' G)⟩
 have Y:(t.place.toList.take (t.put j).2++j::t.place.toList.drop (t.put j).2)[i]?=some j':=by rw[<- P.place];simpa using h1
 have J:(es.toList.take (t.put j).2++(h,x)::es.toList.drop (t.put j).2)[i]?=some e':=by rw[<- el];simpa using h2
 rcases aXj (by simpa using P.le) Y with⟨Z,D⟩|⟨Z,D⟩|⟨Z,D⟩
 ·rcases aXj (by simpa using hle) J with⟨B,d⟩|⟨B,d⟩|⟨B,d⟩
  ·exact old i D d
  ·lia
  ·lia
 ·rcases aXj (by simpa using hle) J with⟨B,d⟩|⟨B,d⟩|⟨B,d⟩
  ·lia
  ·subst D d;exact⟨r,e,λr' G=>sub _ (hr r' G)⟩
  ·lia
 ·rcases aXj (by simpa using hle) J with⟨B,d⟩|⟨B,d⟩|⟨B,d⟩
  ·lia
  ·lia
  ·exact old (i-1) D d
abbrev Own:=Array (Option Nat)
def liveOf(mask:Nat)(owner:Own):List (Nat×Nat):=(aI (mask+1)).filterMap λj=>(owner.getD j none).map (j,·)
theorem aZa{α β:Type}{f g:α->Option β}:∀{l:List α},(∀a∈l,f a=g a)->l.filterMap f=l.filterMap g
 |[],_=>rfl
 |a::l,h=>by
  rw[cH,cH,h a ao,aZa λb d=>h b (am _ d)]
theorem dZ9{mask:Nat}{owner:Own}{j k:Nat}(hs:owner.size=mask+1)(hj:j<=mask)(hn:owner.getD j none=none):(liveOf mask (owner.setIfInBounds j (some k))).Perm ((j,k)::liveOf mask owner):=by
 unfold liveOf;obtain⟨s,u,e⟩:=List.append_of_mem (bo.mpr (Nat.lt_succ_of_le hj));have nd:(aI (mask+1)).Nodup:=jC;rw[e] at nd ⊢;have h1:j∉s:=λh=>by
  have:=eg.mp nd
  exact absurd rfl (this.2.2 j h j ao)
 have h2:j∉u:=λh=>by
  have:=eg.mp nd
  exact(bS.mp this.2.1).1 h
 have g:∀a,a≠j->(owner.setIfInBounds j (some k)).getD a none=owner.getD a none:=λa d=>by
  rw[b5,b5,gX (cv d)]
 have i:(owner.setIfInBounds j (some k)).getD j none=some k:=by
  rw[b5,fF (by lia)];rfl
 rw[gY,gY,cH,cH,i,hn];simp only[Option.map_some,Option.map_none];rw[aZa (l:=s) (g:=λj=>(owner.getD j none).map (j,·)) λa d=>by rw[g a λz=>h1 (z▸d)],aZa (l:=u) (g:=λj=>(owner.getD j none).map (j,·)) λa d=>by rw[g a λz=>h2 (z▸d)]]
 exact eH
theorem cQh{owner:Own}{j:Nat}(h:j<owner.size)(d:Option Nat):owner.getD j d=owner[j]:=by simp[hJ,h]
theorem bXj{mask:Nat}{owner:Own}(hs:owner.size=mask+1):∀(fuel:Nat) (p:Probe),PV mask p->p.j=p.i->p.more=runEnd mask p.i-p.i->(∃l,l<fuel/\owner.getD (aZq mask l (p.i,p.perturb)).1 none=none) ->
  ∃r j,layClean.free mask owner fuel p.i p.perturb=some j/\(road mask r p).j=j/\j<=mask/\owner.getD j none=none/\∀r',r'<r->(owner.getD (road mask r' p).j none).isSome=true
 |0,p,_,_,_,⟨l,h,_⟩=>absurd h (Nat.not_lt_zero _)
 |fuel+1,p,v,L,hm,⟨l,hl,hf⟩=>by
  have re:=bQd mask p.i v.i;have Z:=v.j;have B:∀k,k<=p.more->p.i+k<=mask:=λk d=>by lia
  have gd:∀k,k<=p.more->owner.getD (p.i+k) (some 0)=owner.getD (p.i+k) none:=λk d=>by
   have:p.i+k<owner.size:=by have:=B k d;lia
   rw[cQh this,cQh this]
  have rd:∀k,k<=p.more->(road mask k p).j=p.i+k:=λk d=>by rw[cXu mask k p d,<- L]
  unfold layClean.free;have Y:runEnd mask p.i+1-p.i=p.more+1:=by lia
  rw[Y];cases hq:(aI (p.more+1)).find? λk=>(owner.getD (p.i+k) (some 0)).isNone with
  |some k =>
   rw[List.find?_range_eq_some] at hq;obtain⟨h1,h2,O⟩:=hq;have d:k<=p.more:=Nat.le_of_lt_succ (bo.mp h2);refine⟨k,p.i+k,rfl,rd k d,B k d,?_,λr' D=>?_⟩
   ·rw[gd k d] at h1;exact Option.isNone_iff_eq_none.mp h1
   ·have q:=O r' D;rw[gd r' (by lia)] at q
    rw[rd r' (by lia)]
    cases e:owner.getD (p.i+r') none with
    |none=>rw[e] at q;cases q
    |some z=>rfl
  |none =>
   rw[List.find?_eq_none] at hq;have taken:∀k,k<=p.more->(owner.getD (p.i+k) none).isSome=true:=λk d=>by
    have q:=hq k (bo.mpr (Nat.lt_succ_of_le d));rw[gd k d] at q;cases e:owner.getD (p.i+k) none with
    |none=>rw[e] at q;exact absurd rfl q
    |some z=>rfl
   cases l with
   |zero =>
    have q:=taken 0 (Nat.zero_le _);have G:owner.getD p.i none=none:=hf;rw[Nat.add_zero,G] at q;cases q
   |succ l =>
    have e:=cXv mask p;have J:PV mask (road mask (p.more+1) p):=PV.road _ v;obtain⟨r,j,f1,f2,U,f4,f5⟩:=bXj hs fuel (road mask (p.more+1) p) J (by rw[e]) (by rw[e]) ⟨l,by lia,by rw[e];exact hf⟩
    refine⟨p.more+1+r,j,?_,by rw[aQy];exact f2,U,f4,λr' D=>?_⟩
    ·rw[e] at f1;exact f1
    ·by_cases c:r'<=p.more
     ·rw[rd r' c];exact taken r' c
     ·have q:=f5 (r'-(p.more+1)) (by lia)
      rw[<- aQy,show p.more+1+(r'-(p.more+1))=r' by lia] at q
      exact q
structure OwnI(mask:Nat)(owner:Own)(hs:List Int):Prop where
 size:owner.size=mask+1
 perm:((liveOf mask owner).map (·.2)).Perm (aI hs.length)
 reach:∀(j k:Nat),owner.getD j none=some k->∃h,hs[k]?=some h/\∃r,(road mask r (start mask h)).j=j/\∀r',r'<r->(owner.getD (road mask r' (start mask h)).j none).isSome=true
theorem OwnI.free{mask:Nat}(hm:Mask mask){owner:Own}{hs:List Int}(I:OwnI mask owner hs)(hl:hs.length<=mask):∃y,y<=mask/\owner.getD y none=none:=by
 apply aX;intro i;have all:∀y,y<mask+1->(owner.getD y none).isSome=true:=λy d=>by
  cases e:owner.getD y none with
  |none=>exact absurd ⟨y,Nat.le_of_lt_succ d,e⟩ i
  |some z=>rfl
 have len:((aI (mask+1)).filterMap λj=>(owner.getD j none).map (j,·)).length=mask+1:=by
  have gen:∀l:List Nat,(∀y∈l,(owner.getD y none).isSome=true)->(l.filterMap λj=>(owner.getD j none).map (j,·)).length=l.length:=by
   intro l
   induction l with
   |nil=>intro _;rfl
   |cons a l B =>
    intro h;obtain⟨z,e⟩:=b8.mp (h a ao);rw[cH,e];simp only[Option.map_some,aT];rw[B λy d=>h y (am _ d)]
  rw[gen _ λy d=>all y (bo.mp d),dh]
 have q:=I.perm.length_eq;rw[ae,dh] at q;unfold liveOf at q;lia
theorem cXy{mask:Nat}(hm:Mask mask){owner:Own}{y:Nat}(hy:y<=mask)(hf:owner.getD y none=none)(p:Probe)(v:PV mask p):∃l,l<turns mask/\owner.getD (aZq mask l (p.i,p.perturb)).1 none=none:=by
 have d:(aZq mask 12 (p.i,p.perturb)).1<mask+1:=by rw[aZw mask 11];exact Nat.lt_succ_of_le (bJg _ _ _)
 have j:(aZq mask 12 (p.i,p.perturb)).2<32:=by
  rw[bZj]
  have:=v.pt
  show p.perturb/32^12<32;have e:(2:Nat)^64=18446744073709551616:=by decide
  have D:(32:Nat)^12=1152921504606846976:=by decide
  rw[D];lia
 obtain⟨a,G,B⟩:=hm.full.from d (Nat.lt_succ_of_le hy)
 refine⟨12+a,by unfold turns;lia,?_⟩
 rw[bQe,bZm a _ j,B];exact hf
def cXz(mask:Nat)(acc:Option (Own×Nat))(h:Int):Option (Own×Nat):=do
 let (owner,k) <- acc
 let j <- layClean.free mask owner (turns mask) (bits h%(mask+1)) (bits h)
 pure (owner.setIfInBounds j (some k),k+1)
theorem cQi{mask:Nat}(hm:Mask mask):∀(hs done:List Int) (owner:Own),OwnI mask owner done->done.length+hs.length<=mask ->
  ∃owner',hs.foldl (cXz mask) (some (owner,done.length))=some (owner',(done++hs).length)/\OwnI mask owner' (done++hs)
 |[],done,owner,I,_=>⟨owner,by rw[bD];rfl,by rw[bD];exact I⟩
 |h::hs,done,owner,I,hl=>by
  rw[aT] at hl;obtain⟨y,Y,hf⟩:=I.free hm (by lia)
  have v:=aXw mask h;obtain⟨r,j,f1,f2,f3,f4,f5⟩:=bXj I.size (turns mask) (start mask h) v rfl rfl (cXy hm Y hf _ v);have J:j<owner.size:=by have:=I.size;lia
  have d:∀a,a≠j->(owner.setIfInBounds j (some done.length)).getD a none=owner.getD a none:=λa L=>by
   rw[b5,b5,gX (cv L)]
  have U:(owner.setIfInBounds j (some done.length)).getD j none=some done.length:=by
   rw[b5,fF J];rfl
  have more:∀a,(owner.getD a none).isSome=true->((owner.setIfInBounds j (some done.length)).getD a none).isSome=true:=λa L=>by
   by_cases c:a=j
   ·rw[c,U];rfl
   ·rw[d a c];exact L
  have I':OwnI mask (owner.setIfInBounds j (some done.length)) (done++[h]):=by
   refine⟨by rw[Array.size_setIfInBounds];exact I.size,?_,λa k e=>?_⟩
   ·have q:=(dZ9 (k:=done.length) I.size f3 f4).map (·.2);rw[bd] at q;refine q.trans ?_;rw[ar,dW,gp];exact(I.perm.cons _).trans (iV _ _).symm
   ·by_cases c:a=j
    ·subst c;rw[U] at e;cases e;refine⟨h,by simp,r,f2,λD G=>more _ (f5 D G)⟩
    ·rw[d a c] at e;obtain⟨h',i,D,B,e3⟩:=I.reach a k e;exact⟨h',by rw[dU (ay.mp i).1];exact i,D,B,λx Z=>more _ (e3 x Z)⟩
  obtain⟨owner',i,B⟩:=cQi hm hs (done++[h]) _ I' (by rw[ar,dW];lia)
  refine⟨owner',?_,by rw[a6] at B;exact B⟩
  rw[j6];have es:cXz mask (some (owner,done.length)) h=some (owner.setIfInBounds j (some done.length),done.length+1):=by
   show(do let j <- layClean.free mask owner (turns mask) (bits h%(mask+1)) (bits h);pure (owner.setIfInBounds j (some done.length),done.length+1))=_
   have O:layClean.free mask owner (turns mask) (bits h%(mask+1)) (bits h)=some j:=f1;rw[O]
   rfl
  rw[es];rw[ar,dW,a6] at i;exact i
theorem cJ0(mask:Nat):OwnI mask (gq (mask+1) none) [] where
 size:=by simp
 perm:=by
  have e:liveOf mask (gq (mask+1) none)=[]:=by
   unfold liveOf;rw[List.filterMap_eq_nil_iff];intro a d
   have:(gq (mask+1) (none:Option Nat)).getD a none=none:=by
    rw[b5,js];split <;> rfl
   rw[this];rfl
  rw[e];exact dM _
 reach:=λj k e=>by
  have:(gq (mask+1) (none:Option Nat)).getD j none=none:=by
   rw[b5,js];split <;> rfl
  rw[this] at e;cases e
theorem bJi{mask:Nat}(hm:Mask mask)(hs:Array Int)(hl:hs.size<=mask):∃owner,layClean mask hs=some owner/\OwnI mask owner hs.toList:=by
 obtain⟨owner,i,d⟩:=cQi hm hs.toList [] _ (cJ0 mask) (by simpa using hl)
 refine⟨owner,?_,by simpa using d⟩
 unfold layClean
 have:hs.foldl (init:=some (gq (mask + 1) (none:Option Nat),0)) (λacc h=>do
  let (owner,k) <- acc
  let j <- layClean.free mask owner (turns mask) (bits h%(mask+1)) (bits h)
  pure (owner.setIfInBounds j (some k),k+1))=some (owner,hs.size):=by
  rw[<- Array.foldl_toList];have q:=i;simp only[bN,cZ] at q;rw[show hs.toList.length=hs.size by simp] at q
  exact q
 rw[this]
 rfl
theorem cQj{α β:Type}{f:α->Option β}:∀{l:List α},(∀a∈l,(f a).isSome=true)->(l.filterMap f).length=l.length/\∀i:Nat,(l.filterMap f)[i]?=(l[i]?).bind f
 |[],_=>⟨rfl,λi=>by simp⟩
 |a::l,h=>by
  obtain⟨z,e⟩:=b8.mp (h a ao);obtain⟨h1,h2⟩:=cQj (l:=l) (f:=f) λb d=>h b (am _ d);rw[cH,e];refine⟨by simp[h1],λi=>?_⟩
  cases i with
  |zero=>simp[e]
  |succ i=>simpa using h2 i
theorem cQk{mask:Nat}{owner:Own}{j k:Nat}(h:(j,k)∈liveOf mask owner):j<=mask/\owner.getD j none=some k:=by
 unfold liveOf at h;obtain⟨a,d,e⟩:=ft.mp h;cases q:owner.getD a none with
 |none=>rw[q] at e;cases e
 |some z=>rw[q] at e;cases e;exact⟨Nat.le_of_lt_succ (bo.mp d),q⟩
theorem dZa{mask:Nat}{owner:Own}{j k:Nat}(h1:j<=mask)(h2:owner.getD j none=some k):(j,k)∈liveOf mask owner :=
 ft.mpr ⟨j,bo.mpr (Nat.lt_succ_of_le h1),by rw[h2];rfl⟩
theorem dZb(mask:Nat)(owner:Own):Ris ((liveOf mask owner).map (·.1)):=by
 unfold Ris liveOf;rw[dj];refine List.Pairwise.filterMap _ ?_ (List.pairwise_lt_range (n:=mask+1));intro a i d b hb B hb';cases q:owner.getD a none with
 |none=>rw[q] at hb;cases hb
 |some z =>
  rw[q] at hb;cases hb;cases q':owner.getD i none with
  |none=>rw[q'] at hb';cases hb'
  |some j=>rw[q'] at hb';cases hb';exact d
theorem cQl{α:Type}(es:Array α):((aI es.size).filterMap λk=>es[k]?)=es.toList:=by
 apply gM;intro i;have h:=cQj (l:=aI es.size) (f:=λk=>es[k]?) (λa d=>by
  have:=bo.mp d
  simp[this])
 rw[h.2 i]
 by_cases c:i<es.size
 ·rw[List.getElem?_range c];simp
 ·rw[bY (by simpa using c)];simp[c]
theorem cJ1{es:Array (Int×ad)}{mask' wanted:Nat}(t:aZ)(hm:Mask mask')(hw:sizeAbove wanted-1=mask')(hsz:es.size*5<mask'*3) :
  ∃t' order,t.relaid (es.map (·.1)) wanted=some (t',order)/\(order.filterMap (es[·]?)).size=es.size/\SetI (order.filterMap (es[·]?)) t'/\(order.filterMap (es[·]?)).toList.Perm es.toList:=by
 obtain⟨owner,e1,I⟩:=bJi hm (es.map (·.1)) (by rw[kh];lia)
 have el:(es.map (·.1)).toList.length=es.size:=by simp
 have D:=I.perm;rw[el] at D;have ks:∀k∈(liveOf mask' owner).map (·.2),(es[k]?).isSome=true:=λk hk=>by
  have:=bo.mp (D.mem_iff.mp hk)
  simp[this]
 obtain⟨f1,f2⟩:=cQj (f:=λk=>es[k]?) ks;have B:(j7 (es[·]?) ((liveOf mask' owner).map (·.2)).toArray).toList=((liveOf mask' owner).map (·.2)).filterMap (λk=>es[k]?):=by simp
 have perm:(j7 (es[·]?) ((liveOf mask' owner).map (·.2)).toArray).toList.Perm es.toList:=by
  rw[B,<- cQl es];exact D.filterMap _
 have size:(j7 (es[·]?) ((liveOf mask' owner).map (·.2)).toArray).size=es.size:=by
  have:=perm.length_eq
  simpa using this
 refine⟨{mask:=mask',place:=((liveOf mask' owner).map (·.1)).toArray,dummies:=#[],finger:=t.finger,led:=t.led,moves:=t.movedTo mask',plain:=t.plain},((liveOf mask' owner).map (·.2)).toArray,?_,size,?_,perm⟩
 ·unfold relaid laid;rw[hw,e1]
  rfl
 ·refine⟨⟨hm,rfl,?_,λj hj=>?_⟩,?_,?_,λi j e h1 h2=>?_⟩
  ·show Ris ((liveOf mask' owner).map (·.1)).toArray.toList;exact dZb _ _
  ·have J:j∈(liveOf mask' owner).map (·.1):=hj;obtain⟨⟨a,k⟩,h,rfl⟩:=aV.mp J;exact(cQk h).1
  ·rw[size];show((liveOf mask' owner).map (·.1)).toArray.size=es.size
   have:=D.length_eq
   simpa using this
  ·rw[size];exact hsz
  ·have h1':((liveOf mask' owner).map (·.1))[i]?=some j:=by simpa using h1
   have d:(((liveOf mask' owner).map (·.2)).filterMap (λk=>es[k]?))[i]?=some e:=by
    rw[<- B,a7];exact h2
   rw[f2 i] at d;rw[aQ] at h1' d;cases q:(liveOf mask' owner)[i]? with
   |none=>rw[q] at h1';cases h1'
   |some jk =>
    obtain⟨a,k⟩:=jk;rw[q] at h1' d;have ea:a=j:=aN h1';subst ea;have ek:es[k]?=some e:=d;obtain⟨_,ow⟩:=cQk (ak q);obtain⟨h,U,r,Z,Y⟩:=I.reach a k ow;have L:e.1=h:=by
     have:(es.map (·.1)).toList[k]?=some e.1:=by
      rw[a7,Array.getElem?_map,ek];rfl
     rw[this] at U;exact aN U
    rw[L];refine⟨r,Z,λO G=>?_⟩;obtain⟨z,ez⟩:=b8.mp (Y O G);have pv:=PV.road O (aXw mask' h)
    have:=pv.j
    show _∈((liveOf mask' owner).map (·.1)).toArray.toList;exact aV.mpr ⟨_,dZa (by lia) ez,rfl⟩
theorem grow{mask n:Nat}(hm:Mask mask)(h1:n*5<mask*3)(h2:(n+1)*5>=mask*3)(hn:n+1<=300):∃mask',Mask mask'/\sizeAbove (grown (n+1))-1=mask'/\(n+1)*5<mask'*3/\¬ sizeAbove (grown (n+1))>sizeLine:=by
 rcases hm with rfl|rfl|rfl|rfl
 ·have e:n=4:=by lia
  subst e;exact⟨31,.inr (.inl rfl),by decide +kernel,by decide,by decide +kernel⟩
 ·have e:n=18:=by lia
  subst e;exact⟨127,.inr (.inr (.inl rfl)),by decide +kernel,by decide,by decide +kernel⟩
 ·have e:n=76:=by lia
  subst e;exact⟨511,.inr (.inr (.inr rfl)),by decide +kernel,by decide,by decide +kernel⟩
 ·lia
open PySem.Spec PyProof.Rows
section
variable{prog:aD}{w:aR}{A:bi}{E:ad->aj->Prop}{s:aj}
def TK(prog:aD)(w:aR)(h:bj)(k:List Str)(v:ad):Prop:=∃b,v=.ref b/\IsTupleKey (strKind prog w) h k b
theorem TK.inj{h:bj}{k k':List Str}{v:ad}(a:TK prog w h k v)(b:TK prog w h k' v):k=k':=by
 obtain⟨i,rfl,h1⟩:=a;obtain⟨d,e,h2⟩:=b;cases e;exact h1.inj h2
abbrev hashT(prog:aD)(w:aR)(k:List Str):Int:=tupleKeyHash (strKind prog w) k
theorem bZo{k:List Str}{vs:List ad}(h:ItemsAre (strKind prog w) k vs):∀v∈vs,∃x t,v=iL x t:=by
 induction h with
 |nil=>intro v hv;cases hv
 |cons h1 _ d =>
  intro v hv;rcases aA.mp hv with rfl|hv
  ·obtain⟨t,e⟩:=e8 h1;exact⟨_,t,e⟩
  ·exact d v hv
theorem cQm{k:List Str}{v:ad}{Q:Bool->aj->Prop}(hk:TK prog w s.heap k v)(h:Q false s):aH (aF prog w) A (fE 8 v) Q E s:=by
 obtain⟨b,rfl,hk⟩:=hk;have D:=hk.typeIs;obtain⟨o,items,n,B,_,hd,hi⟩:=hk;unfold fE;refine aa (gI D ?_);dsimp only;simp only[beq_self_eq_true,if_true];refine aa (af ?_);simp only[fC,aS,if_false];refine aa (cA B hd ?_);dsimp only;refine aa ?_;show aH _ _ (forIn items _ _) _ _ s;rw[<- Array.forIn_toList];refine jE _ (λrest r s'=>r.1=none/\s'=s/\∀v∈rest,∃x t,v=iL x t) _ ?_ ?_ _ _ ⟨rfl,rfl,bZo hi⟩
 ·rintro x rest r s' ⟨i,rfl,d⟩;obtain⟨y,t,rfl⟩:=d x ao;unfold fE;refine aa (af ?_);simp only[aS,if_false];exact af ⟨rfl,rfl,λu j=>d u (am _ j)⟩
 ·rintro⟨J,G⟩ s' ⟨i,rfl,_⟩;simp only at i;subst i;exact af h
theorem dJ0{k:List Str}{v:ad}{Q:Bool->aj->Prop}(hk:TK prog w s.heap k v)(h:Q true s):aH (aF prog w) A (eqIsQuiet 8 v) Q E s:=by
 obtain⟨b,rfl,hk⟩:=hk;exact wpAny_eqIsQuiet_tuple hk h
theorem eQx{k:List Str}{x:ad}{stored:List ad}{Q:Bool->aj->Prop}(hx:TK prog w s.heap k x)(hs:∀y∈stored,∃k',TK prog w s.heap k' y)(h:Q false s) :
  aH (aF prog w) A (searchCouldBeSeen x stored) Q E s:=by
 unfold searchCouldBeSeen;refine aa (jE _ (λrest r s'=>r.1=none/\s'=s/\∀y∈rest,∃k',TK prog w s.heap k' y) _ ?_ ?_ _ _ ⟨rfl,rfl,hs⟩)
 ·rintro y rest r s' ⟨G,rfl,d⟩;obtain⟨k',D⟩:=d y ao;have fin:∀y∈rest,∃k',TK prog w s'.heap k' y:=λz L=>d z (am _ L);obtain⟨J,ex,_⟩:=id hx;obtain⟨j,O,_⟩:=id D
  have main:∀ c:Bool,aH (aF prog w) A (if c=true then pure (bF ((none,()):Option Bool × Unit)) else do
    if !(<- eqIsQuiet 8 x) then pure (br (some true,())) else
    if !(<- eqIsQuiet 8 y) then pure (br (some true,())) else
    if <- fE 8 x then pure (br (some true,())) else
    if <- fE 8 y then pure (br (some true,())) else pure (bF (none,())))
    (λr i=>match r with
     |bF B=>B.fst=none/\i=s'/\∀(y:ad),y∈rest->∃k',TK prog w s'.heap k' y
     |br B=>False) E s':=by
   intro c;cases c with
   |true=>exact af ⟨rfl,rfl,fin⟩
   |false =>
    simp only[aS,if_false];refine aa (dJ0 hx ?_);simp only[fC,aS,if_false];refine aa (dJ0 D ?_);simp only[fC,aS,if_false];refine aa (cQm hx ?_);simp only[aS,if_false];refine aa (cQm D ?_);simp only[aS,if_false];exact af ⟨rfl,rfl,fin⟩
  rw[ex,O] at main ⊢;dsimp only;refine eA (main ((J==j)||(carriedByValue (.ref J)&&carriedByValue (.ref j)))) (λr s1 h=>?_) (λ_ _ e=>e)
  cases r with
  |yield B=>exact h
  |done B=>exact h.elim
 ·rintro⟨Y,U⟩ s' ⟨G,rfl,_⟩;simp only at G;subst G;exact af h
def ElT(prog:aD)(w:aR)(h:bj)(es:List (Int×ad)):Prop:=∀e∈es,∃k,TK prog w h k e.2/\e.1=hashT prog w k
structure SetAt(h:bj)(a:Addr)(es:Array (Int×ad))(ep:Nat)(t:aZ):Prop where
 obj:h.get? a=some {cls:=.type "set",dict:=none,data:=.set es ep t}
 inv:SetI es t
theorem SetAt.state{a:Addr}{es:Array (Int×ad)}{ep:Nat}{t:aZ}{Q:(Array (Int×ad)×Nat×aZ)->aj->Prop}(S:SetAt s.heap a es ep t)(h:Q (es,ep,t) s):aH (aF prog w) A (setState a) Q E s :=
 dN S.obj rfl S.inv.fits h
theorem bJj{a:Addr}{es:Array (Int×ad)}{ep:Nat}{t:aZ}{k:List Str}{x:ad}{adding:Bool}(S:SetAt s.heap a es ep t)(hu:A.units<cQ)(hel:ElT prog w s.heap es.toList)(hx:TK prog w s.heap k x)
  {M0:Nat}(hM:(road t.mask M0 (start t.mask (hashT prog w k))).j∉t.place.toList) {Q:SetFound->aj->Prop}
  (hfound:∀i?,(adding=true\/i?.isSome=true)->(∃e∈es.toList,TK prog w s.heap k e.2)->Q (.there i?) s)
  (hfree:∀j r,j<=t.mask->j∉t.place.toList->(road t.mask r (start t.mask (hashT prog w k))).j=j->(∀r',r'<r->(road t.mask r' (start t.mask (hashT prog w k))).j∈t.place.toList)->(¬ ∃e∈es.toList,TK prog w s.heap k e.2)->Q (.free j false) s) :
  ∀(fuel m:Nat) (stand:Option Probe),M0<fuel+m->stand.getD (t.probeStart (hashT prog w k))=road t.mask m (start t.mask (hashT prog w k)) ->
   (∀m',m'<m->∃(i:Nat) (e:Int×ad),t.place[i]?=some (road t.mask m' (start t.mask (hashT prog w k))).j/\es[i]?=some e/\¬ TK prog w s.heap k e.2)->m<=M0 ->
   aH (aF prog w) A (setSearchFrom a x (hashT prog w k) adding fuel stand) Q E s
 |0,m,stand,hf,_,_,hm=>by lia
 |fuel+1,m,stand,hf,hst,Z,hm=>by
  unfold setSearchFrom;refine aa (S.state ?_);dsimp only;rw[S.inv.way];simp only[aS,if_false];have v:=PV.road m (aXw t.mask (hashT prog w k));have dn:∀m,(road t.mask m (start t.mask (hashT prog w k))).dummy=none:=λm=>by
   induction m with
   |zero=>rfl
   |succ m ih=>rw[bQc,bZ6];exact ih
  obtain⟨J,p1,p2⟩:=cZv S.inv.tab S.inv.le (λi=>(es[i]?.map (·.1)).getD 0) (hashT prog w k) v (dn m);rw[hst];have ahead:∀r,r<m+J->∃(i:Nat) (e:Int×ad),t.place[i]?=some (road t.mask r (start t.mask (hashT prog w k))).j/\es[i]?=some e/\¬ TK prog w s.heap k e.2:=λr hr=>by
   by_cases c:r<m
   ·exact Z r c
   ·obtain⟨i,G,q2⟩:=p1 (r-m) (by lia)
    rw[<- aQy,show m+(r-m)=r by lia] at G
    obtain⟨hi,_⟩:=dJ.mp G;have O:i<es.size:=by rw[<- S.inv.size];exact hi
    have U:es[i]?=some es[i]:=by simp[O]
    refine⟨i,es[i],G,U,λz=>q2 ?_⟩;obtain⟨L,z',eh⟩:=hel es[i] (by simp)
    rw[U];show es[i].1=_;rw[eh,z'.inj z]
  have inplace:∀r,r<m+J->(road t.mask r (start t.mask (hashT prog w k))).j∈t.place.toList:=λr hr=>by
   obtain⟨i,e,q,_⟩:=ahead r hr;exact dz.mpr (fD q)
  have hmM:m+J<=M0:=by
   rcases Nat.lt_or_ge M0 (m+J) with c|c
   ·exact absurd (inplace M0 c) hM
   ·exact c
  rcases p2 with⟨G,q2⟩|⟨i,G,q2,q3,q4⟩
  ·generalize hP:aZ.probe t _ (hashT prog w k) (road t.mask m (start t.mask (hashT prog w k)))=pr;have e2:pr=some (.empty (road t.mask J (road t.mask m (start t.mask (hashT prog w k)))).j none):=by rw[<- hP];exact q2
   rw[e2];dsimp only;rw[<- aQy] at G ⊢;have pv:=(PV.road (m+J) (aXw t.mask (hashT prog w k))).j;refine af (hfree _ (m+J) (by lia) G rfl inplace ?_)
   rintro⟨e,he,hke⟩;obtain⟨i,hi,ei⟩:=bn he;have U:es[i]?=some e:=by
    have h2:i<es.size:=by simpa using hi
    rw[<- ei];simp[h2]
   have O:i<t.place.size:=by rw[S.inv.size];simpa using hi
   obtain⟨r,r1,r2⟩:=S.inv.reach i t.place[i] e (by simp[O]) U
   obtain⟨L,z',eh⟩:=hel e he;have hk':L=k:=z'.inj hke;rw[eh,hk'] at r1 r2;rcases Nat.lt_or_ge r (m+J) with c|c
   ·obtain⟨i',e',a1,a2,a3⟩:=ahead r c;rw[r1] at a1;have s1:=bJh S.inv.tab a1;have s2:=bJh (j:=t.place[i]) (i:=i) S.inv.tab (by simp[O])
    rw[s1] at s2;cases s2;rw[U] at a2;cases a2;exact a3 hke
   ·rcases Nat.lt_or_eq_of_le c with c|c
    ·exact G (r2 _ c)
    ·rw[c,r1] at G;exact G (by simp)
  ·generalize hP:aZ.probe t _ (hashT prog w k) (road t.mask m (start t.mask (hashT prog w k)))=pr;have e2:pr=some (.candidate (road t.mask J (road t.mask m (start t.mask (hashT prog w k)))).j i (road t.mask (J+1) (road t.mask m (start t.mask (hashT prog w k))))):=by rw[<- hP];exact q4
   rw[e2];dsimp only;have O:i<es.size:=by
    obtain⟨hi,_⟩:=dJ.mp G;rw[<- S.inv.size];exact hi
   have U:es[i]?=some es[i]:=by simp[O]
   obtain⟨L,hy,eh⟩:=hel es[i] (by simp)
   by_cases Y:t.led=true
   ·rw[Y];simp only[fC,aS,if_false];rw[U];obtain⟨b,eb,hb⟩:=hy;obtain⟨bx,ex,hbx⟩:=id hx;have D:es[i]=(es[i].1,dZ b):=by rw[<- eb]
    rw[D];dsimp only;refine aa (bG ?_);rw[ex];refine wpAny_eqBool_tuple hu hb hbx ?_;refine aa (S.state ?_);dsimp only;have yes:L=k->∃e∈es.toList,TK prog w s.heap k e.2:=λc=>⟨es[i],by simp,⟨b,eb,c▸hb⟩⟩
    by_cases B:(adding&&decide (L=k))=true
    ·rw[if_pos B];have c:L=k:=by
      simp only[aL,decide_eq_true_eq] at B;exact B.2
     exact af (hfound none (.inl (by simp only[aL] at B;exact B.1)) (yes c))
    ·rw[if_neg B];have sm:t.sameMemory t.moves t.mask=some true:=by unfold sameMemory;rw[if_pos (by simp)]
     rw[sm];dsimp only;rw[if_pos rfl,q2];dsimp only;rw[U,D];dsimp only;refine aa (wpAny_isSame_ref_self ?_);rw[if_pos rfl];refine aa (af ?_);dsimp only
     by_cases c:L=k
     ·rw[decide_eq_true c,if_pos rfl];exact af (hfound _ (.inr rfl) (yes c))
     ·rw[decide_eq_false c,if_neg ce];rw[<- ex];refine bJj S hu hel hx hM hfound hfree fuel (m+J+1) _ (by lia) ?_ (λr hr=>?_) ?_
      ·show road t.mask (J+1) (road t.mask m _)=_;rw[<- aQy,Nat.add_assoc]
      ·rcases Nat.lt_or_eq_of_le (Nat.le_of_lt_succ hr) with d|d
       ·exact ahead r d
       ·rw[d];rw[<- aQy] at G;refine⟨i,es[i],G,U,λz=>c ?_⟩;exact TK.inj ⟨b,eb,hb⟩ z
      ·rcases Nat.lt_or_eq_of_le hmM with d|d
       ·exact d
       ·rw[<- aQy] at G;rw[d] at G;exact absurd (dz.mpr (fD G)) hM
   ·have hled':t.led=false:=eU.mpr Y;rw[hled'];simp only[ki,if_true];refine aa (eQx hx (λy hy'=>?_) ?_)
    ·obtain⟨e,he,rfl⟩:=aV.mp hy';have he':e∈es.toList:=by
      have:=dz.mp he
      exact dz.mpr (Array.mem_filter.mp this).1
     obtain⟨L,z,_⟩:=hel e he';exact⟨L,z⟩
    ·simp only[aS,if_false];rw[U];obtain⟨b,eb,hb⟩:=hy;obtain⟨bx,ex,hbx⟩:=id hx;have D:es[i]=(es[i].1,dZ b):=by rw[<- eb]
     rw[D];dsimp only;refine aa (bG ?_);rw[ex];refine wpAny_eqBool_tuple hu hb hbx ?_;refine aa (S.state ?_);dsimp only;have yes:L=k->∃e∈es.toList,TK prog w s.heap k e.2:=λc=>⟨es[i],by simp,⟨b,eb,c▸hb⟩⟩
     by_cases B:(adding&&decide (L=k))=true
     ·rw[if_pos B];have c:L=k:=by
       simp only[aL,decide_eq_true_eq] at B;exact B.2
      exact af (hfound none (.inl (by simp only[aL] at B;exact B.1)) (yes c))
     ·rw[if_neg B];have sm:t.sameMemory t.moves t.mask=some true:=by unfold sameMemory;rw[if_pos (by simp)]
      rw[sm];dsimp only;rw[if_pos rfl,q2];dsimp only;rw[U,D];dsimp only;refine aa (wpAny_isSame_ref_self ?_);rw[if_pos rfl];refine aa (af ?_);dsimp only
      by_cases c:L=k
      ·rw[decide_eq_true c,if_pos rfl];exact af (hfound _ (.inr rfl) (yes c))
      ·rw[decide_eq_false c,if_neg ce];rw[<- ex];refine bJj S hu hel hx hM hfound hfree fuel (m+J+1) _ (by lia) ?_ (λr hr=>?_) ?_
       ·show road t.mask (J+1) (road t.mask m _)=_;rw[<- aQy,Nat.add_assoc]
       ·rcases Nat.lt_or_eq_of_le (Nat.le_of_lt_succ hr) with d|d
        ·exact ahead r d
        ·rw[d];rw[<- aQy] at G;refine⟨i,es[i],G,U,λz=>c ?_⟩;exact TK.inj ⟨b,eb,hb⟩ z
       ·rcases Nat.lt_or_eq_of_le hmM with d|d
        ·exact d
        ·rw[<- aQy] at G;rw[d] at G;exact absurd (dz.mpr (fD G)) hM
end
section
variable{prog:aD}{w:aR}{A:bi}{E:ad->aj->Prop}{s:aj}
theorem bJk(a:Addr)(wanted:Nat):setRelay a wanted=(do
 let (es,_,t) <- setState a
 if aZ.sizeAbove wanted>sizeLine then fo "set:memory"
 let (es,t) <- (do
  let some (t,order):=t.relaid (es.map (·.1)) wanted|fo "internal:set-table-without-room"
  let es':=order.filterMap (es[·]?)
  if es'.size !=es.size then fo "internal:set-table-lost-an-element"
  pure (es',t))
 storeSet a es t):=by rfl
theorem hbvT{k:List Str}{v:ad}{Q:Bool->aj->Prop}(hk:TK prog w s.heap k v)(h:Q (decide (k=[])) s):aH (aF prog w) A (hashByValue 8 v) Q E s:=by
 obtain⟨b,rfl,hk⟩:=hk;have j:=hk.typeIs;obtain⟨o,items,n,i,_,hd,hi⟩:=hk;unfold hashByValue;refine aa (wpAny_specialOf j PySem.F.slot_tuple_hash.lookup ?_);dsimp only;refine aa (cA i hd ?_);refine aa ?_;show aH _ _ (forIn items _ _) _ _ s;rw[<- Array.forIn_toList];generalize hits:items.toList=d at hi;cases hi with
 |nil =>
  rw[kj];exact af (af h)
 |cons h1 h2 =>
  obtain⟨t,e⟩:=e8 h1;subst e;rw[eQ];have B:∀n x t,hashByValue n (iL x t)=pure false:=λn x t=>by unfold hashByValue;rfl
  rw[B];refine aa (aa (af ?_));simp only[ki,if_true];refine af ?_;exact af (af (by simpa using h))
def bZ9(prog:aD)(w:aR)(h:bj)(es:List (Int×ad))(t:aZ):Prop:=t.plain=true->∀e∈es,TK prog w h [] e.2
theorem addT{a:Addr}{es:Array (Int×ad)}{ep:Nat}{t:aZ}{k:List Str}{x:ad}(S:SetAt s.heap a es ep t)(hu:A.units<cQ)(hel:ElT prog w s.heap es.toList)(hpl:bZ9 prog w s.heap es.toList t)(hx:TK prog w s.heap k x)(hn:es.size+1<=300){Q:Bool->aj->Prop}
  (h:∀ h' es' ep' t' added,SetAt h' a es' ep' t'->dI a s.heap h'->bZ9 prog w s.heap es'.toList t'->t'.led=t.led ->
   ((added=false/\es'=es/\∃e∈es.toList,TK prog w s.heap k e.2)\/(added=true/\es'.toList.Perm ((hashT prog w k,x)::es.toList)/\¬ ∃e∈es.toList,TK prog w s.heap k e.2))->Q added {s with heap:=h'}) :
  aH (aF prog w) A (jW a x (hashT prog w k)) Q E s:=by
 unfold jW setAddHashedIn;refine bG (aa (S.state ?_));dsimp only;have hbs:byScan x es=false:=by
  obtain⟨b,rfl,_⟩:=hx
  rfl
 rw[hbs];simp only[aS,if_false];obtain⟨y,hy,hf⟩:=bZ8 S.inv.tab S.inv.le;obtain⟨m,hm,e⟩:=fQt S.inv.tab.mask (aXw t.mask (hashT prog w k)) hy;have hm':m<100000+0:=by
  have:=S.inv.tab.mask
  have:t.mask<=511:=by rcases this with z|z|z|z <;> lia
  lia
 refine aa ?_;unfold setSearch;refine bJj S hu hel hx (M0:=m) (by rw[e];exact hf) (λi? _ hyes=>?_) (λj r hj hfj ej hrj hno=>?_) 100000 0 none hm' rfl (λm' h'=>absurd h' (Nat.not_lt_zero _)) (Nat.zero_le _)
 ·dsimp only;have q:=h s.heap es ep t false S (kD a s.heap) hpl rfl (.inl ⟨rfl,rfl,hyes⟩);exact af q
 ·dsimp only;refine aa (S.state ?_);dsimp only;have P:=put_set (x:=x) S.inv hj hfj ej hrj true;obtain⟨p1,p2,p3,p4,p5,p6⟩:=P;have Z:(t.put j).1.dummies=#[]:=p3.nodum;have p3r:Ris (t.put j).1.place.toList:=p3.ris;have p3t:∀a∈(t.put j).1.place.toList,a<=(t.put j).1.mask:=p3.top;generalize hes:aZ.insertAt es (t.put j).2 (hashT prog w k,x)=d at p1 p2 p6 ⊢;have B:d.toList.Perm ((hashT prog w k,x)::es.toList):=by
   rw[p1];refine eH.trans ?_;rw[bQ]
  have rest:∀ tt:aZ,tt.place=(t.put j).1.place->tt.dummies=#[]->tt.mask=t.mask->tt.led=t.led->(tt.plain=true->t.plain=true/\k=[])->aH (aF prog w) A (do
    storeSet a d tt
    if (!false&&tt.tooFull)=true then do
     setRelay a (dO (es.size+1))
     pure true
    else pure true) Q E s:=by
   intro tt h1 h2 h3 h4 h5;have T':Tab tt:=⟨by rw[h3];exact S.inv.tab.mask,h2,by rw[h1];exact p3r,λa ha=>by rw[h1] at ha;rw[h3,<- p5];exact p3t a ha⟩
   have G:∀J:List (Int×ad),J.Perm ((hashT prog w k,x)::es.toList)->∀t2:aZ,t2.plain=tt.plain->bZ9 prog w s.heap J t2:=by
    intro J hp t2 ht2 hpt ee hee;rw[ht2] at hpt;obtain⟨q1,q2⟩:=h5 hpt;rcases aA.mp (hp.mem_iff.mp hee) with q|q
    ·rw[q,<- q2];exact hx
    ·exact hpl q1 ee q
   have hz:d.size<=sizeLine:=by rw[p2,bu];lia
   refine aa (gP S.obj rfl ?_ hz);have O:(s.heap.update a (d0 d tt)).get? a=some {cls:=.type "set",dict:=none,data:=.set d (ep+1) tt}:=by
    have:=cG (d0 d tt) S.obj (by rw[hU _ _ rfl];rfl)
    rw[hU _ _ rfl] at this;exact this
   have U:=cr s.heap a (d0 d tt);have tf:tt.tooFull=decide ((es.size+1)*5>=t.mask*3):=by
    unfold aZ.tooFull kz;rw[h2,h1,p4,h3]
    rfl
   have room:=S.inv.room
   by_cases D:(es.size+1)*5>=t.mask*3
   ·rw[tf,decide_eq_true D];simp only[ki,Bool.and_self,if_true];obtain⟨mask',hm1,hm2,hm3,hm4⟩:=grow S.inv.tab.mask room D hn;obtain⟨t',order,r1,r2,r3,r4⟩:=cJ1 (es:=d) tt hm1 hm2 (by rw[p2];exact hm3)
    have Y:t'.led=tt.led/\t'.plain=tt.plain:=by
     unfold relaid laid at r1;cases hq:layClean (sizeAbove (grown (es.size+1))-1) (Array.map (·.1) d) with
     |none=>rw[hq] at r1;cases r1
     |some ow=>rw[hq] at r1;cases r1;exact⟨rfl,rfl⟩
    have hfit1:tt.fits d.size=true:=by
     unfold ky kz
     have:t.mask>=7:=by rcases S.inv.tab.mask with z|z|z|z <;> lia
     simp only[aL,beq_iff_eq,decide_eq_true_eq];rw[h2,h1,p4,p2,h3];refine⟨rfl,?_⟩;show es.size+1+0<=t.mask;lia
    refine aa ?_;rw[bJk];refine aa (dN O rfl hfit1 ?_);dsimp only;rw[if_neg hm4,r1];dsimp only;rw[r2];simp only[bne_self_eq_false,aS,if_false,jA];have hz2:(order.filterMap (d[·]?)).size<=sizeLine:=by rw[r2];exact hz
    refine gP O rfl ?_ hz2;have ho2:((s.heap.update a (d0 d tt)).update a (d0 (order.filterMap (d[·]?)) t')).get? a=some {cls:=.type "set",dict:=none,data:=.set (order.filterMap (d[·]?)) (ep+1+1) t'}:=by
     have:=cG (d0 (order.filterMap (d[·]?)) t') O (by rw[hU _ _ rfl];rfl)
     rw[hU _ _ rfl] at this;exact this
    have hsb2:=U.trans (cr (s.heap.update a (d0 d tt)) a (d0 (order.filterMap (d[·]?)) t'));exact af (h _ _ _ _ true ⟨ho2,r3⟩ hsb2 (G _ (r4.trans B) _ Y.2) (Y.1.trans h4) (.inr ⟨rfl,r4.trans B,hno⟩))
   ·rw[tf,decide_eq_false D];simp only[iS,aS,if_false];have I':SetI d tt:=by
     refine⟨T',by rw[h1,p4,p2],by rw[h3,p2];lia,λi j' e' q1 q2=>?_⟩
     rw[h1] at q1;obtain⟨r,r1,r2⟩:=p6 i j' e' q1 q2;rw[h3,h1];exact⟨r,r1,r2⟩
    exact af (h _ _ (ep+1) _ true ⟨O,I'⟩ U (G _ B _ rfl) h4 (.inr ⟨rfl,B,hno⟩))
  by_cases hp:t.plain=true
  ·have L:(t.put j).1.plain=true:=hp;rw[L];simp only[if_true];refine aa (hbvT hx ?_)
   by_cases hk:k=[]
   ·rw[decide_eq_true hk];simp only[if_true];exact rest (t.put j).1 rfl Z p5 rfl (λ_=>⟨hp,hk⟩)
   ·rw[decide_eq_false hk];simp only[aS,if_false];exact rest { (t.put j).1 with plain:=false} rfl Z p5 rfl (λz=>nomatch z)
  ·have L:(t.put j).1.plain=false:=eU.mpr hp;rw[L];simp only[aS,if_false];refine aa (af ?_);simp only[if_true];exact rest (t.put j).1 rfl Z p5 rfl (λz=>by rw[L] at z;cases z)
theorem eQy{a:Addr}{es:Array (Int×ad)}{ep:Nat}{t:aZ}{k:List Str}{x:ad}(S:SetAt s.heap a es ep t)(hu:A.units<cQ)(hel:ElT prog w s.heap es.toList)(hpl:bZ9 prog w s.heap es.toList t)(hx:TK prog w s.heap k x)(hn:es.size+1<=300){Q:Bool->aj->Prop}
  (h:∀ h' tk es' ep' t' added,SetAt h' a es' ep' t'->dI a s.heap h'->bZ9 prog w s.heap es'.toList t'->t'.led=t.led->s.toks<=tk ->
   ((added=false/\es'=es/\∃e∈es.toList,TK prog w s.heap k e.2)\/(added=true/\es'.toList.Perm ((hashT prog w k,x)::es.toList)/\¬ ∃e∈es.toList,TK prog w s.heap k e.2))->Q added {s with heap:=h',toks:=tk}) :
  aH (aF prog w) A (setAdd a x) Q E s:=by
 obtain⟨b,rfl,d⟩:=id hx;unfold setAdd;refine bG (aa (wpAny_pyHash_tuple hu d ?_));exact addT (s:={s with toks:=s.toks+(k.length+1)}) S hu hel hpl hx hn λh' es' ep' t' added h1 h2 B j i=>h h' _ es' ep' t' added h1 h2 B j (Nat.le_add_right _ _) i
end
def TupKeep(h h':bj):Prop:=∀b o,h.get? b=some o->o.cls=.type "tuple"->h'.get? b=some o
theorem TupKeep.trans{a b c:bj}(x:TupKeep a b)(y:TupKeep b c):TupKeep a c:=λd o e h=>y d o (x d o e h) h
def setOb(es:Array (Int×ad))(ep:Nat)(t:aZ):Obj:={cls:=.type "set",dict:=none,data:=.set es ep t}
structure SetKd(prog:aD)(w:aR)(κ:Type) where
 is:bj->κ->ad->Prop
 I:bj->Addr->Array (Int×ad)->Nat->aZ->Prop
 inj:∀{h:bj}{k k':κ}{v:ad},is h k v->is h k' v->k=k'
 obj:∀{h:bj}{a:Addr}{es:Array (Int×ad)}{ep:Nat}{t:aZ},I h a es ep t->h.get? a=some (setOb es ep t)
 fits:∀{h:bj}{a:Addr}{es:Array (Int×ad)}{ep:Nat}{t:aZ},I h a es ep t->t.fits es.size=true
 few:∀{h:bj}{a:Addr}{es:Array (Int×ad)}{ep:Nat}{t:aZ}{ks:List κ},I h a es ep t->a9 (λ(e:Int×ad) k=>is h k e.2) es.toList ks->ks.Nodup->t.plain=true->es.size<=1
 fresh:∀{h:bj}{a:Addr}{led:Bool},h.get? a=some (setOb #[] 0 (.fresh 0 0 led))->I h a #[] 0 (.fresh 0 0 led)
 keepIs:∀{h h':bj}{k:κ}{v:ad},is h k v->TupKeep h h'->is h' k v
 keepI:∀{h h':bj}{a:Addr}{es:Array (Int×ad)}{ep:Nat}{t:aZ},I h a es ep t->h'.get? a=h.get? a->TupKeep h h'->I h' a es ep t
 add:∀{A:bi}{E:ad->aj->Prop}{s:aj}{a:Addr}{es:Array (Int×ad)}{ep:Nat}{t:aZ}{k:κ}{x:ad}{Q:Bool->aj->Prop},A.units<cQ->I s.heap a es ep t->is s.heap k x->es.size+1<=300 ->
  (∀ h' tk es' ep' t' added,I h' a es' ep' t'->dI a s.heap h'->t'.led=t.led->s.toks<=tk ->
   ((added=false/\es'=es/\∃e∈es.toList,is s.heap k e.2)\/(added=true/\(∃hh,es'.toList.Perm ((hh,x)::es.toList))/\¬ ∃e∈es.toList,is s.heap k e.2))->Q added {s with heap:=h',toks:=tk}) ->
  aH (aF prog w) A (setAdd a x) Q E s
theorem aXs{h h':bj}{a:Addr}{es:Array (Int×ad)}{ep:Nat}{t:aZ}(ho:h.get? a=some (setOb es ep t))(sb:dI a h h'):TupKeep h h':=λb o e c=>by
 refine(sb.2 b ?_).trans e;rintro rfl;rw[ho] at e;have i:o=setOb es ep t:=(aN e).symm;rw[i] at c;have j:dH "set"=dH "tuple":=c;injection j with d
 exact absurd d (by decide)
section
variable{prog:aD}{w:aR}
theorem TK.keep{h h':bj}{k:List Str}{v:ad}(x:TK prog w h k v)(kp:TupKeep h h'):TK prog w h' k v:=by
 obtain⟨b,rfl,o,items,n,i,d,hd,hi⟩:=x;exact⟨b,rfl,o,items,n,kp b o i d,d,hd,hi⟩
theorem paired_mem{α β:Type}{R:α->β->Prop}:∀{l:List α}{m:List β},a9 R l m->∀a∈l,∃b∈m,R a b
 |_,_,.nil,a,h=>nomatch h
 |_,_,.cons r t,a,h=>by
  rcases aA.mp h with rfl|h
  ·exact⟨_,ao,r⟩
  ·obtain⟨b,d,q⟩:=paired_mem t a h;exact⟨b,am _ d,q⟩
theorem paired_mem'{α β:Type}{R:α->β->Prop}:∀{l:List α}{m:List β},a9 R l m->∀b∈m,∃a∈l,R a b
 |_,_,.nil,a,h=>nomatch h
 |_,_,.cons r t,a,h=>by
  rcases aA.mp h with rfl|h
  ·exact⟨_,ao,r⟩
  ·obtain⟨b,d,q⟩:=paired_mem' t a h;exact⟨b,am _ d,q⟩
theorem paired_perm{α β:Type}{R:α->β->Prop}{l l':List α}(p:l'.Perm l):∀{m:List β},a9 R l m->∃m',m'.Perm m/\a9 R l' m':=by
 have gen:∀{l l':List α},l.Perm l'->∀{m:List β},a9 R l m->∃m',m'.Perm m/\a9 R l' m':=by
  intro l l' p
  induction p with
  |nil=>intro m h;cases h;exact⟨[],dM _,.nil⟩
  |cons x _ D =>
   intro m h;cases h with
   |cons r t =>
    obtain⟨m',h1,h2⟩:=D t;exact⟨_,h1.cons _,.cons r h2⟩
  |swap x y l =>
   intro m h;cases h with
   |cons r t =>
    cases t with
    |cons j t2=>exact⟨_,iW _ _ _,.cons j (.cons r t2)⟩
  |trans _ _ i d =>
   intro m h;obtain⟨L,a1,J⟩:=i h;obtain⟨B,a2,G⟩:=d J;exact⟨B,a2.trans a1,G⟩
 intro m h;exact gen p.symm h
theorem few_aux{α β:Type}{R:α->β->Prop}{k0:β}{l:List α}{m:List β}(hp:a9 R l m)(h0:∀a∈l,R a k0)(inj:∀a b b',R a b->R a b'->b=b')(nd:m.Nodup):l.length<=1:=by
 cases hp with
 |nil=>exact Nat.zero_le _
 |cons i t1 =>
  cases t1 with
  |nil=>exact Nat.le_refl _
  |cons d t2 =>
   have B:=inj _ _ _ (h0 _ ao) i;have j:=inj _ _ _ (h0 _ (am _ ao)) d
   have:=(bS.mp nd).1
   exact absurd (by rw[<- B,j];exact ao) this
theorem empty_el{P:Int×ad->Prop}:∀e∈(#[]:Array (Int×ad)).toList,P e:=λe he=>absurd he (by simp)
def tupKd(prog:aD)(w:aR):SetKd prog w (List Str) where
 is:=TK prog w
 I:=λh a es ep t=>SetAt h a es ep t/\ElT prog w h es.toList/\bZ9 prog w h es.toList t
 inj:=λa b=>a.inj b
 obj:=λx=>x.1.obj
 fits:=λx=>x.1.inv.fits
 few:=λ{h a es ep t ks} x hp nd hpl=>by
  have q:=few_aux hp (x.2.2 hpl) (λ_ _ _ r1 r2=>r1.inj r2) nd;simpa using q
 fresh:=λho=>⟨⟨ho,fresh_ok _ _ _⟩,empty_el,λ_=>empty_el⟩
 keepIs:=λx kp=>x.keep kp
 keepI:=λx e kp=>⟨⟨by rw[e];exact x.1.obj,x.1.inv⟩,λe he=>by
  obtain⟨k,q1,q2⟩:=x.2.1 e he;exact⟨k,q1.keep kp,q2⟩,λhp e he=>(x.2.2 hp e he).keep kp⟩
 add:=λ{A E s a es ep t k x Q} hu hI hx hn h=>by
  obtain⟨S,hel,hpl⟩:=hI;refine eQy S hu hel hpl hx hn λh' tk es' ep' t' added h1 h2 h3 h4 h5 h6=>?_;have kp:=aXs S.obj h2;refine h h' tk es' ep' t' added ⟨h1,?_,λhp e he=>(h3 hp e he).keep kp⟩ h2 h4 h5 ?_
  ·intro e he;rcases h6 with⟨_,rfl,_⟩|⟨_,hp,_⟩
   ·obtain⟨k,q1,q2⟩:=hel e he;exact⟨k,q1.keep kp,q2⟩
   ·rcases aA.mp (hp.mem_iff.mp he) with q|q
    ·rw[q];exact⟨k,hx.keep kp,rfl⟩
    ·obtain⟨k,q1,q2⟩:=hel e q;exact⟨k,q1.keep kp,q2⟩
  ·rcases h6 with q|⟨q1,q2,q3⟩
   ·exact .inl q
   ·exact .inr ⟨q1,⟨_,q2⟩,q3⟩
theorem bJl(t:aZ)(n:Nat):(t.orStandIn n).led=t.led:=by unfold aZ.orStandIn;split <;> rfl
theorem addS{A:bi}{E:ad->aj->Prop}{s:aj}{a:Addr}{es:Array (Int×ad)}{ep:Nat}{t:aZ}{k:Str}{x:ad}{Q:Bool->aj->Prop}(ho:s.heap.get? a=some (setOb es ep t))(hf:t.fits es.size=true)(hel:ElemsOf (strKind prog w) es.toList)
    (hpl:t.plain=true->es=#[]) (hx:(strKind prog w).is k x=true) (hn:es.size+1<=300)
    (h:∀ h' es' ep' t' added,h'.get? a=some (setOb es' ep' t') -> t'.fits es'.size=true -> ElemsOf (strKind prog w) es'.toList -> (t'.plain=true -> es'=#[]) -> dI a s.heap h' -> t'.led=t.led ->
      ((added=false/\es'=es/\∃e∈es.toList,(strKind prog w).is k e.2=true)\/(added=true/\es'.toList.Perm (((strKind prog w).hash k,x)::es.toList)/\¬ ∃e∈es.toList,(strKind prog w).is k e.2=true))->Q added {s with heap:=h'}) :
    aH (aF prog w) A (jW a x ((strKind prog w).hash k)) Q E s:=by
  obtain⟨tok,rfl⟩:=e8 hx;have hb:es.size<scanBound:=by unfold scanBound; lia
  unfold jW setAddHashedIn;refine bG (aa (dN ho rfl hf ?_));dsimp only;rw [byScan_of rfl hb hel];simp only [↓reduceIte];unfold setAddByScan;refine aa ?_;refine aa (db ?_);refine aa (wpAny_setScan_of hx ho rfl hf hel ?_);cases hr:List.findIdx? (λe=>(strKind prog w).is k e.2) es.toList with
  |some j =>
    dsimp only;obtain⟨hj,hpj,_⟩:=List.findIdx?_eq_some_iff_getElem.mp hr;refine af (af ?_);exact h s.heap es ep t false ho hf hel hpl (kD a s.heap) rfl (.inl ⟨rfl,rfl,es.toList[j],dD hj,hpj⟩)
  |none =>
    dsimp only;have hno:¬ ∃e∈es.toList,(strKind prog w).is k e.2=true:=by
      rintro⟨e,he,Z⟩;have:=List.findIdx?_eq_none_iff.mp hr e he;rw [Z] at this; exact Bool.noConfusion this
    have hgw:∀(b:Bool) {s1:aj}{Q':Unit->aj->Prop},Q' () s1->aH (aF prog w) A (match b with|true=>rule "set.scan.the-table-gave-way"|false=>pure ()) Q' E s1 :=
      λb s1 Q' hq =>by cases b <;> first|exact af hq|exact db hq
    have d:=layNew_perm t es ((strKind prog w).hash k) (.str k tok);have B:=layNew_fits t es ((strKind prog w).hash k) (.str k tok);have D:(layNew t es ((strKind prog w).hash k) (.str k tok)).2.1.led=t.led:=by
      unfold layNew
      split
      · exact bJl _ _
      · rfl
    generalize hL:layNew t es ((strKind prog w).hash k) (.str k tok)=L at d B D ⊢;obtain⟨es1,t1,G,gave⟩:=L;dsimp only at d B D ⊢;rw [cy] at d;have i:es1.toList.Perm (((strKind prog w).hash k,.str k tok)::es.toList):=d.trans (iV _ _);have Y:ElemsOf (strKind prog w) es1.toList:=(hel.push hx rfl).perm d;have hsz1:es1.size=es.size+1:=by
      have:=i.length_eq;simpa using this
    have hz1:es1.size<=sizeLine:=by rw [hsz1,bu]; lia
    refine aa (hgw _ ?_)
    have rest:∀ t2:aZ,t2.fits es1.size=true -> t2.plain=false -> t2.led=t.led -> aH (aF prog w) A (do
        storeSet a es1 t2
        if (!G&&t2.tooFull)=true then do
            (match (jF t2 es1 (dO es1.size)).2.2 with|true =>rule "set.scan.the-table-gave-way"|false =>pure ())
            storeSet a (jF t2 es1 (dO es1.size)).1 (jF t2 es1 (dO es1.size)).2.1
            pure (some true)
          else pure (some true)) (λr s'=>aH (aF prog w) A (match r with|some added=>pure added|none=>setAddHashedIn a (.str k tok) ((strKind prog w).hash k) 99999) Q E s') E s:=by
      intro t2 q1 q2 q3;refine aa (gP ho rfl ?_ hz1);have ho1:(s.heap.update a (d0 es1 t2)).get? a=some (setOb es1 (ep+1) t2):=by
        have:=cG (d0 es1 t2) ho (by rw [hU _ _ rfl]; rfl)
        rw [hU _ _ rfl] at this; exact this
      have U:=cr s.heap a (d0 es1 t2)
      split
      · have Z:=relayAll_perm t2 es1 (dO es1.size)
        have hfr:=relayAll_fits t2 es1 (dO es1.size);have O:(jF t2 es1 (dO es1.size)).2.1.led=t2.led/\(jF t2 es1 (dO es1.size)).2.1.plain=false:=by
          unfold jF
          split
          · rename_i t' order hq
            have : t'.led=t2.led/\t'.plain=t2.plain:=by
              unfold relaid laid at hq;cases hc:layClean (sizeAbove (dO es1.size)-1) (Array.map (·.1) es1) with
              |none =>rw [hc] at hq; cases hq
              |some ow =>rw [hc] at hq; cases hq; exact⟨rfl,rfl⟩
            dsimp only
            split
            · exact⟨this.1,this.2.trans q2⟩
            · exact⟨rfl,rfl⟩
          · exact⟨rfl,rfl⟩
        generalize hRl:jF t2 es1 (dO es1.size)=Rl at Z hfr O ⊢;obtain⟨J,t3,gave2⟩:=Rl;dsimp only at Z hfr O ⊢;have hsz2:J.size=es1.size:=by
          have:=Z.length_eq;simpa using this
        refine aa (hgw _ ?_);refine aa (gP ho1 rfl ?_ (by rw [hsz2]; exact hz1))
        have ho2:((s.heap.update a (d0 es1 t2)).update a (d0 J t3)).get? a=some (setOb J (ep+1+1) t3):=by
          have:=cG (d0 J t3) ho1 (by rw [hU _ _ rfl]; rfl)
          rw [hU _ _ rfl] at this; exact this
        refine af (af ?_);exact h _ J _ t3 true ho2 hfr (Y.perm Z) (λz =>by rw [O.2] at z; cases z) (U.trans (cr _ a _)) (O.1.trans q3) (.inr ⟨rfl,Z.trans i,hno⟩)
      · refine af (af ?_)
        exact h _ es1 _ t2 true ho1 q1 Y (λz =>by rw [q2] at z; cases z) U q3 (.inr ⟨rfl,i,hno⟩)
    split
    · refine aa ?_
      rw [hashByValue_scannable 8 rfl];refine af ?_;exact rest _ (aZ.fits_plain_off B) rfl D
    · rename_i hnp
      refine aa (af ?_);simp only [↓reduceIte];exact rest t1 B (eU.mpr hnp) D
end
section
variable{prog:aD}{w:aR}
def strKd(prog:aD)(w:aR):SetKd prog w Str where
 is:=λ_ k v=>(dG prog w).is k v=true
 I:=λh a es ep t=>h.get? a=some (setOb es ep t)/\t.fits es.size=true/\ElemsOf (dG prog w) es.toList/\(t.plain=true->es=#[])
 inj:=λa b=>(dG prog w).inj _ _ _ a b
 obj:=λx=>x.1
 fits:=λx=>x.2.1
 few:=λx _ _ hp=>by rw[x.2.2.2 hp];exact Nat.zero_le _
 fresh:=λho=>⟨ho,rfl,empty_el,λ_=>rfl⟩
 keepIs:=λx _=>x
 keepI:=λx e _=>⟨by rw[e];exact x.1,x.2⟩
 add:=λ{A E s a es ep t k x Q} hu hI hx hn h=>by
  obtain⟨ho,hf,hel,hpl⟩:=hI;unfold setAdd;refine bG (aa ((dG prog w).pyHash hx ?_));exact addS (s:={ s with toks:=s.toks + 1 }) ho hf hel hpl hx hn λh' es' ep' t' added h1 h2 h3 h4 h5 h6 h7=>h h' _ es' ep' t' added ⟨h1,h2,h3,h4⟩ h5 h6 (Nat.le_succ _) (by
   rcases h7 with q|⟨q1,q2,q3⟩
   ·exact .inl q
   ·exact .inr ⟨q1,⟨_,q2⟩,q3⟩)
structure Mem{κ:Type}(D:SetKd prog w κ)(h:bj)(a:Addr)(done:List κ)(led:Bool)(ks:List κ):Prop where
 ex:∃es ep t,D.I h a es ep t/\t.led=led/\a9 (λ(e:Int×ad) k=>D.is h k e.2) es.toList ks
 nd:ks.Nodup
 mem:∀k,k∈ks↔k∈done
theorem Mem.keep{κ:Type}{D:SetKd prog w κ}{h h':bj}{a:Addr}{done:List κ}{led:Bool}{ks:List κ}(M:Mem D h a done led ks)(e:h'.get? a=h.get? a)(kp:TupKeep h h'):Mem D h' a done led ks:=by
 obtain⟨es,i,t,h1,h2,d⟩:=M.ex;exact⟨⟨es,i,t,D.keepI h1 e kp,h2,L2.Paired.mapP d λ_ _ q=>D.keepIs q kp⟩,M.nd,M.mem⟩
theorem Mem.size{κ:Type}{D:SetKd prog w κ}{h:bj}{a:Addr}{done:List κ}{led:Bool}{ks:List κ}(M:Mem D h a done led ks):ks.length<=done.length :=
 M.nd.length_le_of_subset λk d=>(M.mem k).mp d
theorem addM{κ:Type}[DecidableEq κ](D:SetKd prog w κ){A:bi}{E:ad->aj->Prop}{s:aj}{a:Addr}{done:List κ}{led:Bool}{ks:List κ}{k:κ}{x:ad}{Q:Bool->aj->Prop}(hu:A.units<cQ)(M:Mem D s.heap a done led ks)(hx:D.is s.heap k x)(hn:ks.length+1<=300)
  (h:∀h' tk ks',Mem D h' a (done++[k]) led ks'->dI a s.heap h'->TupKeep s.heap h'->s.toks<=tk->Q (decide (k∉ks)) {s with heap:=h',toks:=tk}) :
  aH (aF prog w) A (setAdd a x) Q E s:=by
 obtain⟨es,ep,t,h1,h2,J⟩:=M.ex;have hl:es.size=ks.length:=by have:=cq J;simpa using this
 refine D.add hu h1 hx (by lia) λh' tk j B t' added q1 Y q3 q4 q5=>?_
 have kp:=aXs (D.obj h1) Y;have i:a9 (λ(e:Int×ad) k=>D.is h' k e.2) es.toList ks:=L2.Paired.mapP J λ_ _ q=>D.keepIs q kp;have isin:(∃e∈es.toList,D.is s.heap k e.2)↔k∈ks:=by
  constructor
  ·rintro⟨e,he,q⟩;obtain⟨G,Z,q'⟩:=paired_mem J e he;rw[D.inj q q'];exact Z
  ·intro d;obtain⟨e,he,q⟩:=paired_mem' J k d;exact⟨e,he,q⟩
 rcases q5 with⟨U,O,L⟩|⟨U,⟨hh,O⟩,L⟩
 ·have d:=isin.mp L;have q:=h h' tk ks ⟨⟨j,B,t',q1,q3.trans h2,by rw[O];exact i⟩,M.nd,λG=>by
   rw[M.mem G,aJ,aG];exact⟨.inl,λz=>z.elim id λz=>by rw[z];exact(M.mem k).mp d⟩⟩ Y kp q4
  rw[decide_eq_false (λz=>z d)] at q;rw[U];exact q
 ·have d:k∉ks:=λz=>L (isin.mpr z);obtain⟨ks',p1,p2⟩:=paired_perm O (R:=λ(e:Int × ad) k=>D.is h' k e.2) (m:=k::ks) (.cons (D.keepIs hx kp) i);have q:=h h' tk ks' ⟨⟨j,B,t',q1,q3.trans h2,p2⟩,p1.nodup_iff.mpr (bS.mpr ⟨d,M.nd⟩),λG=>by
   rw[p1.mem_iff,aA,aJ,aG,M.mem G];exact⟨λz=>z.symm,λz=>z.symm⟩⟩ Y kp q4
  rw[decide_eq_true d] at q;rw[U];exact q
theorem dZc{κ:Type}[DecidableEq κ](D:SetKd prog w κ){A:bi}{R:Result->aj->Prop}{I S l:Addr}{items:Array ad}{ks:List κ}{led:Bool}(hh:A.in1.handled=none)(hu:A.in1.units<cQ)(hne:l≠I)(hSI:S≠I)(hSl:S≠l){cs:List κ}(hcs:∀k∈ks,k∈cs)(hn:cs.length+1<=300) :
  ∀(j i:Nat) (s:aj),items.size-i=j->i<=items.size->s.heap.IsListIter I l i->s.heap.IsList l items->a9 (λv k=>D.is s.heap k v) items.toList ks->(∃ms,Mem D s.heap S (ks.take i) led ms) ->
   (∀h' tk ms,Mem D h' S ks led ms->TupKeep s.heap h'->(∀b o,b≠S->b≠I->s.heap.get? b=some o->h'.get? b=some o)->R (.ok (.ret .none)) {s with heap:=h',toks:=tk}) ->
   fu (aF prog w) A (.builtin "set.update.loop" ⟨[.ref S,.ref I],[]⟩) R s:=by
 have Z:∀ {h h':bj} {i:Nat},h.IsListIter I l i->(∀ b o,b≠I->h.get? b=some o->h'.get? b=some o)->TupKeep h h':=λst k b o e c=>k b o (by
  rintro rfl;obtain⟨o',e',c',_⟩:=st;rw[e] at e';cases e';rw[c] at c';injection c' with c''
  exact absurd c'' (by decide)) e
 intro j
 induction j with
 |zero =>
  intro i s hj hi d hl L hM hR;have hin:i=items.size:=by lia
  subst hin;refine c5 fZ ?_;rw[cB eD _];show aH _ A.in1 (ff (.ref I)>>=_) _ _ s;refine aa (wpAny_pyNext_list_end hh d hl (by simp) λh' eb=>?_)
  show aH _ A.in1 (ret cC) _ _ _;have kp:=Z d λb o hb e=>eb b o hb e;obtain⟨ms,M⟩:=hM;have hlen:ks.length=items.size:=by have:=cq L;simpa using this.symm
  rw[bI (by lia)] at M
  obtain⟨es,ep,t,h1,_⟩:=id M.ex;have hS:=D.obj h1;exact af (hR h' s.toks ms (M.keep (by rw[hS];exact eb S _ hSI hS) kp) kp λb o _ hb e=>eb b o hb e)
 |succ j ih =>
  intro i s hj hi d hl L hM hR;have O:i<items.size:=by lia
  refine c5 fZ ?_;rw[cB eD _];show aH _ A.in1 (ff (.ref I)>>=_) _ _ s;refine aa (wpAny_pyNext_list_item d hl (x:=items[i]) (by simp[O]) λh1 st1 B=>?_)
  have G:=Z d λb o hb e=>(B.2 b hb).trans e;obtain⟨ms,M⟩:=hM;obtain⟨es,ep,t,q1,_⟩:=id M.ex;have hS:=D.obj q1;have M1:=M.keep (h':=h1) (by rw[B.2 S hSI]) G
  have hlen:ks.length=items.size:=by have:=cq L;simpa using this.symm
  have hki:ks[i]?=some ks[i]:=ag (by lia)
  have hx:D.is s.heap ks[i] items[i]:=by
   have gen:∀{l:List ad}{m:List κ},a9 (λv k=>D.is s.heap k v) l m->∀(n:Nat) (v:ad) (k:κ),l[n]?=some v->m[n]?=some k->D.is s.heap k v:=by
    intro l m L
    induction L with
    |nil=>intro n v k h;simp at h
    |cons r _ ih =>
     intro n v k h1 h2;cases n with
     |zero=>simp at h1 h2;subst h1;subst h2;exact r
     |succ n=>exact ih n v k (by simpa using h1) (by simpa using h2)
   exact gen L i _ _ (by simp[O]) hki
  show aH _ A.in1 (fQ [items[i]] (setAdd S items[i])>>=_) _ _ _;refine aa (bG ?_);have hms:ms.length<=cs.length:=M1.nd.length_le_of_subset λk hk=>hcs k (cz ((M1.mem k).mp hk));refine addM D (s:={s with heap:=h1}) hu M1 (D.keepIs hx G) (by lia) λh2 tk ms' M2 J Y htk=>?_
  have hl2:h2.IsList l items:=by
   obtain⟨o,e,r⟩:=hl;exact⟨o,(J.2 l (cv hSl)).trans ((B.2 l hne).trans e),r⟩
  have st2:h2.IsListIter I l (i+1):=by
   obtain⟨o,e,r⟩:=st1;exact⟨o,(J.2 I (cv hSI)).trans e,r⟩
  refine af ⟨eG eD _,ih (i+1) _ (by lia) O st2 hl2 (L2.Paired.mapP L λ_ _ q=>D.keepIs q (G.trans Y)) ⟨ms',?_⟩ λh' tk' U a1 a2 a3=>?_⟩
  ·have et:ks.take (i+1)=ks.take i++[ks[i]]:=by rw[bJ,hki];rfl
   rw[et];exact M2
  ·exact hR h' tk' U a1 ((G.trans Y).trans a2) λb o hb1 hb2 e=>a3 b o hb1 hb2 ((J.2 b hb1).trans ((B.2 b hb2).trans e))
abbrev ledOf(w:aR):Bool:=!(w.params.followText "set-order")
theorem dZd{A:bi}{E:ad->aj->Prop}{s:aj}(a:ad){Q1:ad->aj->Prop}
  (h:Q1 (.ref s.heap.objs.size) {s with heap:=s.heap.push (setOb #[] 0 (.fresh 0 0 (ledOf w)))}) :
  fu (aF prog w) A (.call (.builtin "set.__new__") ⟨[.type "set",a],[]⟩) (wants Q1 E) s:=by
 refine iu ?_;show aH _ A.in1 (do checkBuiltinCall "set.__new__" ⟨[.type "set",a],[]⟩;again (.builtin "set.__new__" ⟨[.type "set",a],[]⟩)) _ _ s
 refine aa (jh (PySem.F.newCall_set_1 a) (af ⟨eG ka _,c5 PySem.F.entry_set_new ?_⟩));rw[cB ka _];unfold cI.«set.__new__» cI.Frozenset.newClass;have i:=sub_set_self;obtain⟨B,g,d,j,os⟩:=s;dsimp only
 wp_walk
 refine dA (af ?_);dsimp only;simp only[newObj];refine aa (wpAny_alloc (af ?_));exact af h
end
section
variable{prog:aD}{w:aR}
theorem call_setKM{κ:Type}[DecidableEq κ](D:SetKd prog w κ){A:bi}{E:ad->aj->Prop}{s:aj}{l:Addr}{items:Array ad}{ks:List κ}{Q:ad->aj->Prop}
  (hh:A.handled=none) (hu:A.units+8<cQ) (hl:s.heap.IsList l items) (hi:a9 (λv k=>D.is s.heap k v) items.toList ks) {cs:List κ}(hcs:∀k∈ks,k∈cs) (hb:cs.length+1<=300)
  (h:∀ (h':bj) (tk:Nat) ms,Mem D h' s.heap.objs.size ks (ledOf w) ms->TupKeep s.heap h' ->
   (∀b o,b<s.heap.objs.size->s.heap.get? b=some o->h'.get? b=some o)->Q (.ref s.heap.objs.size) {s with heap:=h',toks:=tk}) :
  aH (aF prog w) A (call (.type "set") [.ref l]) Q E s:=by
 obtain⟨c,tl,hmro⟩:=PySem.F.called_set.mro;have hmade:=PySem.F.called_set.made;have hsub:=PySem.F.called_set.sub;refine wpAny_call (iu ?_);show aH _ _ (callAny (.type "set") _) _ _ _;refine af ⟨Code.quiet_builtin _ (by decide +kernel),c5 PySem.F.entry_type_call ?_⟩
 rw[bi.under_plain (weight_type_call_type "set" [.ref l] []) rfl];have h1:=PySem.F.called_set.notType;have h2:=PySem.F.called_set.canCreate;have hct:=PySem.F.typeCall_set_1 (.ref l)
 repeat (any_goals (first|assumption|wp_step))
 refine iD (dZd (.ref l) (E:=E) (Q1:=λobj s1=>obj=.ref s.heap.objs.size/\s1={s with heap:=s.heap.push (setOb #[] 0 (.fresh 0 0 (ledOf w)))}) ⟨rfl,rfl⟩) λr s1 hr=>?_
 cases r with
 |error e=>exact hr
 |ok fl =>
  cases fl with
  |ret obj =>
   obtain⟨rfl,rfl⟩:=hr;have hS:(s.heap.push (setOb #[] 0 (.fresh 0 0 (ledOf w)))).get? s.heap.objs.size=some (setOb #[] 0 (.fresh 0 0 (ledOf w))):=av _ rfl;have hT:aj.TypeIs {s with heap:=s.heap.push (setOb #[] 0 (.fresh 0 0 (ledOf w)))} (.ref s.heap.objs.size) "set":=⟨_,hS,rfl⟩
   have hli:=PySem.F.called_set.init.lookup;have hbi:=PySem.F.called_set.init.bind (.ref s.heap.objs.size)
   repeat (any_goals (first|assumption|wp_step))
   refine iD (codeAny_call_builtin (R:=wants (λr s2=>r=.none/\∃ h' tk ms,s2={ s with heap:=h',toks:=tk }/\Mem D h' s.heap.objs.size ks (ledOf w) ms/\TupKeep s.heap h' /\
     (∀b o,b<s.heap.objs.size->s.heap.get? b=some o->h'.get? b=some o)) E) PySem.F.called_set.init.plain PySem.F.entry_set_init (check_set_init_1 hT ?_)) λr2 s2 B=>?_
   ·obtain⟨ol,L,hcl,nl,hdl⟩:=hl;obtain⟨ocls,i,odata,d⟩:=ol;simp only at hcl hdl;subst hcl;subst hdl;have J:(s.heap.push (setOb #[] 0 (.fresh 0 0 (ledOf w)))).get? l=some {cls:=.type "list",dict:=i,data:=.seq items nl,slots:=d}:=ah _ L;have hsls:=PySem.F.sub_list_set;have hslf:=PySem.F.sub_list_frozenset;have hne:(dH "list" ==dH "dict")=false:=by decide
    have Y:(s.heap.push (setOb #[] 0 (.fresh 0 0 (ledOf w)))).IsList l items:=⟨_,J,rfl,nl,rfl⟩;unfold cI.«set.__init__» noKeywords cI.Frozenset.updateFrom;generalize hPI:jR=PI;unfold setOb at *
    wp_walk
    subst hPI;refine gQ Y ?_;refine aa (wpAny_runValue ?_);have U:l<s.heap.objs.size:=aB L;have hh3:A.in1.in1.in1.handled=none:=by simp[hh]
    have hu3:A.in1.in1.in1.units<cQ:=by show A.units+1+1+1<cQ;lia
    have O:l≠(s.heap.push {cls:=.type "set",dict:=none,data:=.set #[] 0 (.fresh 0 0 (ledOf w))}).objs.size:=by
     rw[cx];exact Nat.ne_of_lt (Nat.lt_succ_of_lt U)
    have hSI:s.heap.objs.size≠(s.heap.push {cls:=.type "set",dict:=none,data:=.set #[] 0 (.fresh 0 0 (ledOf w))}).objs.size:=by
     rw[cx];exact Nat.ne_of_lt (Nat.lt_succ_self _)
    have kp:TupKeep s.heap ((s.heap.push {cls:=.type "set",dict:=none,data:=.set #[] 0 (.fresh 0 0 (ledOf w))}).push {cls:=.type "list_iterator",data:=.fields #[.ref l,.int 0 0]}):=λb o e _=>ah _ (ah _ e)
    have Z:((s.heap.push {cls:=.type "set",dict:=none,data:=.set #[] 0 (.fresh 0 0 (ledOf w))}).push {cls:=.type "list_iterator",data:=.fields #[.ref l,.int 0 0]}).get? s.heap.objs.size
       =some (setOb #[] 0 (.fresh 0 0 (ledOf w))):=ah _ hS
    refine dZc D hh3 hu3 O hSI (cv (Nat.ne_of_lt U)) hcs hb (items.size-0) 0 _ (by lia) (Nat.zero_le _) ⟨_,av _ rfl,rfl,rfl⟩ (Y.push _) (L2.Paired.mapP hi λ_ _ q=>D.keepIs q kp)
     ⟨[],⟨⟨#[],0,.fresh 0 0 (ledOf w),D.fresh Z,rfl,.nil⟩,fL,λk=>by simp⟩⟩ ?hR
    case hR =>
     intro h' tk' ms hM j G;show aH _ _ _ _ _ _;refine af ?_;show aH _ _ (ret cC) _ _ _;refine af ⟨rfl,h',tk',ms,rfl,hM,kp.trans j,λb o hb e=>?_⟩;exact G b o (Nat.ne_of_lt hb) (by rw[cx];exact Nat.ne_of_lt (Nat.lt_succ_of_lt hb)) (ah _ (ah _ e))
   ·cases r2 with
    |error e=>exact B
    |ok fl2 =>
     cases fl2 with
     |ret r =>
      obtain⟨rfl,h',tk,ms,rfl,hM,j,G⟩:=B
      repeat (any_goals (first|assumption|wp_step))
      exact h _ _ _ hM j G
     |_=>exact B.elim
  |_=>exact hr.elim
theorem call_setK{κ:Type}[DecidableEq κ](D:SetKd prog w κ){A:bi}{E:ad->aj->Prop}{s:aj}{l:Addr}{items:Array ad}{ks:List κ}{Q:ad->aj->Prop}
  (hh:A.handled=none) (hu:A.units+8<cQ) (hl:s.heap.IsList l items) (hi:a9 (λv k=>D.is s.heap k v) items.toList ks) (hb:items.size+1<=300)
  (h:∀ (h':bj) (tk:Nat) ms,Mem D h' s.heap.objs.size ks (ledOf w) ms->TupKeep s.heap h' ->
   (∀b o,b<s.heap.objs.size->s.heap.get? b=some o->h'.get? b=some o)->Q (.ref s.heap.objs.size) {s with heap:=h',toks:=tk}) :
  aH (aF prog w) A (call (.type "set") [.ref l]) Q E s :=
 call_setKM D hh hu hl hi (cs:=ks) (λ_ h=>h) (by have:=cq hi;simp at this;lia) h
end
end ST
set_option maxHeartbeats 1000000
namespace L2
open PySem PySem.Spec PyProof.Rows
variable{α β:Type}
theorem cJ2{H:Hp}{xs:List V}{us:List ad}{bs:List Bool}(p:a9 (dB H) xs bs)(r:Vals xs us){i:Nat}{v:ad}(h:us[i]?=some v):∃b,bs[i]?=some b/\v=.bool b:=by
 have hl:=r.length;have hi:i<xs.length:=by
  rcases Nat.lt_or_ge i us.length with z|z
  ·omega
  ·rw[bY z] at h;cases h
 obtain⟨b,e,B⟩:=Paired.get' p (ag hi);obtain⟨u,eu,j⟩:=r.get (ag hi);rw[h] at eu;cases eu;have d:xs[i]=V.bl b:=B;rw[d] at j;exact⟨b,e,j⟩
theorem cQn{h h':bj}{o:Obj}(hk:∀b x,b∉[h.objs.size]->(h.push o).get? b=some x->h'.get? b=some x):∀b x,h.get? b=some x->h'.get? b=some x:=λb x e =>
 hk b x (λz=>by have:=aG.mp z;subst this;exact Nat.lt_irrefl _ (aB e)) (ah _ e)
theorem cZw(bs:List Bool):∀n,n=bs.length->((aI n).all λi=>(bs[i]?).getD true)=bs.all id:=by
 rintro n rfl;rw[eR,bB,bB];refine⟨λh b j=>?_,λh i hi=>?_⟩
 ·obtain⟨i,hi,rfl⟩:=bn j
  have:=h i (bo.mpr hi)
  rwa [ag hi] at this
 ·have d:=bo.mp hi;rw[ag d];exact h _ (dD d)
theorem cZx(bs:List Bool):∀n,n=bs.length->((aI n).any λi=>(bs[i]?).getD false)=bs.any id:=by
 rintro n rfl;rw[eR,List.any_eq_true,List.any_eq_true];refine⟨λ⟨i,hi,h⟩=>?_,λ⟨b,j,h⟩=>?_⟩
 ·have d:=bo.mp hi;rw[ag d] at h;exact⟨_,dD d,h⟩
 ·obtain⟨i,hi,rfl⟩:=bn j;exact⟨i,bo.mpr hi,by rw[ag hi];exact h⟩
section
variable{X:Cx}
theorem cJ3(hc:X.calm=true):CallR X (.builtin "all") (λxs H Q=>∃x bs,xs=[x]/\dL X.K dB H x bs/\Q (.bl (bs.all id)) H):=by
 intro pins s σ H xs us Q I r h;obtain⟨x,bs,rfl,⟨a,ys,rfl,G,p⟩,q⟩:=h;obtain⟨u,rfl,rx⟩:=aX9 r;cases rx;obtain⟨d,j,pl,_⟩:=I.list G;obtain⟨o,J,_⟩:=id pl.isList;refine PySem.call_all_walk (gQ pl.isList ⟨_,_,_,_,_,_,λi=>(bs[i]?).getD true,rfl,PySem.Walks.list (A:=X.A.in1) (by have:=I.ok.hd hc;simp[this]) _ a (Nat.ne_of_lt (aB J)) d.toArray,⟨⟨_,av _ rfl,rfl,rfl⟩,pl.isList.push _⟩,λi v s' U Y O B=>?_,λh' D L=>?_⟩)
 ·obtain⟨b,e,rfl⟩:=cJ2 p j (show d[i]?=some v by simpa using O)
  simp only[e,Option.getD_some] at B;exact cS B
 ·rw[cZw bs _ (by rw[aq,<- j.length,p.length])]
  exact⟨.bl _,H,I.kept (t':=D) (cQn L),rfl,q⟩
theorem cJ4(hc:X.calm=true):CallR X (.builtin "any") (λxs H Q=>∃x bs,xs=[x]/\dL X.K dB H x bs/\Q (.bl (bs.any id)) H):=by
 intro pins s σ H xs us Q I r h;obtain⟨x,bs,rfl,⟨a,ys,rfl,G,p⟩,q⟩:=h;obtain⟨u,rfl,rx⟩:=aX9 r;cases rx;obtain⟨d,j,pl,_⟩:=I.list G;obtain⟨o,J,_⟩:=id pl.isList;refine PySem.call_any_walk (gQ pl.isList ⟨_,_,_,_,_,_,λi=>(bs[i]?).getD false,rfl,PySem.Walks.list (A:=X.A.in1) (by have:=I.ok.hd hc;simp[this]) _ a (Nat.ne_of_lt (aB J)) d.toArray,⟨⟨_,av _ rfl,rfl,rfl⟩,pl.isList.push _⟩,λi v s' U Y O B=>?_,λh' D L=>?_⟩)
 ·obtain⟨b,e,rfl⟩:=cJ2 p j (show d[i]?=some v by simpa using O)
  simp only[e,Option.getD_some] at B;exact cS B
 ·rw[cZx bs _ (by rw[aq,<- j.length,p.length])]
  exact⟨.bl _,H,I.kept (t':=D) (cQn L),rfl,q⟩
def SzOk(ds:List α)(n:Nat):Prop:=n<=ds.length/\(n=ds.length↔ds.Nodup)
theorem aJo[DecidableEq α]:∀(ds ms:List α),ms.Nodup->ms⊆ds->ds.length<=ms.length->ds.Nodup
 |[],_,_,_,_=>fL
 |x::xs,ms,nd,sub,le=>by
  have i:x∉xs:=λi=>by
   have:ms⊆xs:=λk j=>by
    rcases aA.mp (sub j) with rfl|z
    ·exact i
    ·exact z
   have:=nd.length_le_of_subset this
   simp only[aT] at le;omega
  refine bS.mpr ⟨i,aJo xs (ms.erase x) (nd.erase x) (λk j=>?_) ?_⟩
  ·have d:=(eX nd).mp j;exact(aA.mp (sub d.2)).resolve_left d.1
  ·simp only[aT] at le
   have:=List.length_erase (a:=x) (l:=ms)
   split at this <;> omega
theorem cJ5[DecidableEq α]{ds ms:List α}(nd:ms.Nodup)(h:∀k,k∈ms↔k∈ds):SzOk ds ms.length:=by
 have sub:ms⊆ds:=λk i=>(h k).mp i;have le:ms.length<=ds.length:=nd.length_le_of_subset sub;refine⟨le,λe=>?_,λd=>Nat.le_antisymm le (d.length_le_of_subset λk i=>(h k).mpr i)⟩;exact aJo ds ms nd sub (by omega)
theorem dZe{P:aD}{w:aR}{h:bj}{H:Hp}{K:Fg}{b:Addr}{xs:List V}{its:List ad}{k:List Str}(p:a9 (dS H) xs k)(r:Vals xs its)(t:IsTup h b its.toArray):ST.TK P w h k (.ref b):=by
 obtain⟨o,i,j,n,hd⟩:=t;refine⟨b,rfl,o,its.toArray,n,i,j,hd,?_⟩;show ItemsAre (dG P w) k its;have go:∀{xs:List V}{its:List ad}{k:List Str},a9 (dS H) xs k->Vals xs its->ItemsAre (dG P w) k its:=by
  intro xs its k p r
  induction p generalizing its with
  |nil=>cases r;first|exact trivial|exact .nil
  |cons e _ d =>
   cases r with
   |cons r t =>
    cases e;obtain⟨B,rfl⟩:=r
    first
     |exact⟨by simp[dG,d6],d t⟩
     |exact .cons (by simp[dG,d6]) (d t)
 exact go p r
theorem dJ1{P:aD}{w:aR}{H:Hp}{h:bj}:∀{xs:List V}{us:List ad}{ds:List Str},a9 (dS H) xs ds->Vals xs us->a9 (λv k=>(ST.strKd P w).is h k v) us ds
 |_,_,_,.nil,.nil=>.nil
 |_,_,_,.cons p q,.cons r t=>by
  refine .cons ?_ (dJ1 q t);cases p;obtain⟨d,rfl⟩:=r;unfold ST.strKd;simp[dG,d6]
end
end L2
set_option maxHeartbeats 4000000
namespace L2
open PySem PySem.Spec PyProof.Rows
section
variable{prog:aD}{w:aR}{A:bi}{E:ad->aj->Prop}{s:aj}
theorem bZp{it t:Addr}{i:Nat}{items:Array ad}{x:ad}{Q:ad->aj->Prop}(hit:s.heap.IsTupleIter it t i)(ht:s.heap.IsTuple t items)(hx:items[i]?=some x)
  (hQ:∀h',h'.IsTupleIter it t (i+1)->dI it s.heap h'->Q x {s with heap:=h'}):aH (aF prog w) A (cO (.ref it)) Q E s:=by
 obtain⟨o,d,D,hd⟩:=id hit;obtain⟨ol,j,_,nl,B⟩:=ht;have ne:¬ ((dZ t==cC)=true):=ce;refine aa (cj (name:=aP "__next__") hit.typeIs F.slot_tuple_iterator_next (b9 F.slot_tuple_iterator_next hit.typeIs F.entry_tuple_iterator_next ?_ (F.args_tuple_iterator_next_1 _)));refine aa (m:=field (.ref it) 0) (cR d hd (x:=.ref t) rfl ?_);refine(if_neg ne).symm▸(aa (m:=field (.ref it) 1) (cR d hd (x:=.int i 0) rfl ?_));refine aa (m:=jG (.ref t)) (cA j B ?_);simp only[cL,hx];refine aa (wpAny_setField d hd (by simp) (af ⟨x,rfl,af (hQ _ ⟨_,cG _ d (Obj.isFreed_of_fields (Obj.data_mapFields hd _)),(Obj.cls_mapFields ..).trans D,?_⟩ (cr ..))⟩))
 rw[Obj.data_mapFields hd];simp[fq]
theorem cQo{it t:Addr}{i:Nat}{items:Array ad}{Q:ad->aj->Prop}(hh:A.handled=none)(hit:s.heap.IsTupleIter it t i)(ht:s.heap.IsTuple t items)(hx:items[i]?=none)
  (hE:∀h' e,bj.ExtBut it s.heap h'->(∃o,h'.get? e=some o/\o.cls=.type "StopIteration")->E (.ref e) {s with heap:=h'}):aH (aF prog w) A (cO (.ref it)) Q E s:=by
 obtain⟨o,j,D,hd⟩:=id hit;obtain⟨ol,d,_,nl,B⟩:=ht;have ne:¬ ((dZ t==cC)=true):=ce;refine aa (cj (name:=aP "__next__") hit.typeIs F.slot_tuple_iterator_next (b9 F.slot_tuple_iterator_next hit.typeIs F.entry_tuple_iterator_next ?_ (F.args_tuple_iterator_next_1 _)));refine aa (m:=field (.ref it) 0) (cR j hd (x:=.ref t) rfl ?_);refine(if_neg ne).symm▸(aa (m:=field (.ref it) 1) (cR j hd (x:=.int i 0) rfl ?_));refine aa (m:=jG (.ref t)) (cA d B ?_);simp only[cL,hx];refine aa (db (aa (wpAny_setField j hd (by simp) (aa (m:=newExc (.type "StopIteration") []) ?_))))
 simp only[newExc,newTuple];refine aa (bz (aa (m:=iX _ _) (jh (a:=cC) (by first|rfl|(simp only[iX];rfl)) (bz ?_ (by size_fits)))) (by size_fits))
 simp only[raiseNew];refine aa (wpAny_handled ?_)
 first|rw[show A.in1.handled=none from hh]|rw[hh]
 exact aa (af (wpAny_throw (hE _ _ (((cr ..).extBut.push _).push _) ⟨_,av _ rfl,rfl⟩)))
theorem cJ6(hh:A.handled=none)(it l:Addr)(hne:l≠it)(items:Array ad):Draws prog w A it [it,l] items.size (λi v=>items[i]?=some v) (λi h=>h.IsTupleIter it l i/\h.IsTuple l items) where
 live:=λ_ _ st=>let ⟨o,j,_⟩:=st.1;⟨o,j⟩
 frame:=λ_ _ _ st D=>⟨let ⟨o,j,r⟩:=st.1;⟨o,D it (by simp) o j,r⟩,let ⟨o,j,r⟩:=st.2;⟨o,D l (by simp) o j,r⟩⟩
 item:=λi s Q E hi st G=>bZp st.1 st.2 (x:=items[i]) (by simp[hi]) λh' B d=>G _ h' s.toks (by simp[hi]) ⟨B,st.2.extBut d.extBut hne⟩ d
 done:=λs Q E st J=>cQo hh st.1 st.2 (by simp) J
theorem fQv(l:Addr)(items:Array ad)(n:Nat)(dct:Option Addr)(sl:Array (Option ad)) :
  Meets (cI.«enumerate.__new__» ⟨[.type "enumerate",.ref l],[]⟩) (λ_ R s=>s.heap.get? l=some { cls:=.type "tuple",dict:=dct,data:=.seq items n,slots:=sl } /\
   R (.ok (.ret (.ref (s.heap.push {cls:=.type "tuple_iterator",data:=.fields #[.ref l,.int 0 0]}).objs.size)))
    {s with heap:=(s.heap.push {cls:=.type "tuple_iterator",data:=.fields #[.ref l,.int 0 0]}).push {cls:=.type "enumerate",data:=.fields #[.none,.bool false,.ref s.heap.objs.size,fq 0,.none,.none]}}) :=
 .of_wp λprog w A R s h=>by
  obtain⟨D,g,d,B,os⟩:=s;obtain⟨hl,h⟩:=h;have i:=sub_enumerate;have j:jX (aj.heap ⟨D,g,d,B,os⟩) l items:=⟨_,hl,rfl,n,rfl⟩
  wp_walk using gu hl
  refine wpAny_stack_any λst=>af ?_
  split
  ·rename_i c _ _ _ _ _;cases (c==dH "enumerate") <;>
   ·wp_walk using gu hl,eJ j
    exact⟨_,rfl,h⟩
  ·wp_walk using gu hl,eJ j
   exact⟨_,rfl,h⟩
theorem eQz{l:Addr}{items:Array ad}{Q:ad->aj->Prop}(hT:s.heap.IsTuple l items)
  (h:∀h',IsEnum h' (s.heap.objs.size+1) s.heap.objs.size 0 .none->h'.IsTupleIter s.heap.objs.size l 0->(∀b o,s.heap.get? b=some o->h'.get? b=some o)->Q (.ref (s.heap.objs.size+1)) {s with heap:=h'}) :
  aH (aF prog w) A (call (.type "enumerate") [.ref l]) Q E s:=by
 obtain⟨⟨c,j,dt,sl⟩,hl,i,n,hd⟩:=hT;replace i:c=.type "tuple":=i;replace hd:dt=.seq items n:=hd;subst i hd;refine callType_new F.called_enumerate (by decide) (F.typeCall_enumerate_1 _) (F.newCall_enumerate_1 _) (λobj=>F.args_object_init_2 obj _) F.entry_enumerate_new (fQv l items n j sl) ⟨hl,?_⟩
 generalize d:({cls:=.type "tuple_iterator",data:=.fields #[.ref l,.int 0 0]}:Obj)=o1;have B:(s.heap.push o1).objs.size=s.heap.objs.size+1:=cx ..;have he:=av (s.heap.push o1) (o:={cls:=.type "enumerate",data:=.fields #[.none,.bool false,.ref s.heap.objs.size,fq 0,.none,.none]}) rfl;have hi:(s.heap.push o1).get? s.heap.objs.size=some o1:=av _ (by rw[<- d];rfl)
 show _/\_;rw[B] at he ⊢;exact⟨⟨_,he,rfl⟩,h _ he ⟨o1,ah _ hi,by rw[<- d],by rw[<- d];rfl⟩ λb o x=>ah _ (ah _ x)⟩
end
def Ite(K:Fg)(a:Addr):It:=⟨λi H=>∃xs x,SqT K H a xs/\xs[i]?=some x,λi H x H'=>∃p y,H p=none/\x=.ref p/\H'=upd H p (.tup [.int i,y])/\∀xs,SqT K H a xs->xs[i]?=some y,λi H=>∃xs,SqT K H a xs/\xs.length<=i⟩
theorem eZ0{P:aD}{w:aR}{K:Fg}{elts:List Expr}{x1:Nat}{pos:Pos}(a it e:Addr)(hei:e≠it)(hae:a≠e)(hai:a≠it):Turn P w K (.Tuple elts x1 pos) (Ite K a) [e,it] e (λi h=>(∃old,IsEnum h e it i old)/\h.IsTupleIter it a i) where
 mem:=by simp
 obj:=λi h st b j=>by
  obtain⟨⟨old,he⟩,o,L,hc,hd⟩:=st;rcases aA.mp j with rfl|j
  ·exact⟨_,he,λv z=>by cases z⟩
  ·have:=aG.mp j
   subst this;exact⟨o,L,λv z=>by rw[hd] at z;cases z⟩
 keep:=λi h h' st k=>by
  obtain⟨⟨old,he⟩,o,L,r⟩:=st;exact⟨⟨old,k e (by simp) _ he⟩,o,k it (by simp) _ L,r⟩
 item:=by
  intro X hP hw hK hc i pins s σ H E I hf st hg;subst hP hw hK;obtain⟨xs,x,hq,hx⟩:=hg;obtain⟨its,rv,p,hz⟩:=I.tuple hq;obtain⟨u,hu,ru⟩:=rv.get hx;obtain⟨⟨old,he⟩,D⟩:=st;have hi:i<its.toArray.size:=by
   rcases Nat.lt_or_ge i its.toArray.size with z|z
   ·exact z
   ·rw[aq] at z;rw[bY z] at hu;cases hu
  have hh:X.A.in1.handled=none:=by have:=I.ok.hd hc;simp[this]
  have hT:s.heap.IsTuple a its.toArray:=p;refine wpAny_pyNext_enum_itemD (cJ6 hh it a hai its.toArray) he ⟨D,hT⟩ hi hei (by simp;exact⟨hei,λz=>hae z.symm⟩) λy h' U hy L hs' hT' hsz hk=>⟨_,rfl,?_⟩
  have hy':y=u:=by
   have:its[i]?=some y:=by simpa using hy
   rw[hu] at this;exact(aN this).symm
  subst hy';refine wpAny_letOwnedTupleGo_enum L λh2 he2 J=>?_;have fe:=hf e (by simp)
  have fi:=hf it (by simp)
  have Y:∀b o,b≠e->b≠it->s.heap.get? b=some o->h2.get? b=some o:=λb o n1 n2 g=>(J.2 b n1).trans (hk b o n1 n2 g);have Z:e<s.heap.objs.size:=aB he;have d:H s.heap.objs.size=none:=I.hok.fresh (Nat.le_refl _);have nT:∀b o,s.heap.get? b=some o->b≠s.heap.objs.size:=λb o g=>Nat.ne_of_lt (aB g);have nH:∀b u,H b=some u->b≠e/\b≠it:=λb u g=>⟨λz=>(by rw[z,fe.1] at g;cases g),λz=>(by rw[z,fi.1] at g;cases g)⟩
  have G:h2.get? s.heap.objs.size=some {cls:=.type "tuple",data:=.seq #[.int i U,y]}:=(J.2 _ (Nat.ne_of_gt Z)).trans hT';have hok:HOk X.prog X.w (upd H s.heap.objs.size (.tup [.int i,x])) h2:=λb ob g=>by
   by_cases j:b=s.heap.objs.size
   ·subst j;rw[aQ9] at g;cases g;refine⟨by rw[bu];show 2<=_;decide,[.int i U,y],.cons ⟨U,rfl⟩ (.cons ru .nil),⟨_,G,rfl,0,rfl⟩,λo e=>by rw[G] at e;cases e;rfl⟩
   ·rw[upd_ne j] at g;refine(I.hok b ob g).stay (λc w' B q=>?_) (λc q=>?_) λc ys q=>?_
    ·rcases B with rfl|B
     ·exact Y _ _ (nH _ _ g).1 (nH _ _ g).2 q
     ·exact Y _ _ (nH _ _ B).1 (nH _ _ B).2 q
    ·rw[upd_ne (aQ8 q d)];exact q
    ·rw[upd_ne (aQ8 q d)];exact q
  have un:Un (frs X.stack) [e,it] H (upd H s.heap.objs.size (.tup [.int i,x])) s.heap h2:=by
   have O:∀{b:Addr},b∉[e,it]->b≠e/\b≠it:=λj=>⟨λz=>j (by simp[z]),λz=>j (by simp[z])⟩
   exact⟨λb o g _ _ j=>Y b o (O j).1 (O j).2 g,λb o g _ _ j=>⟨o.slots,Y b o (O j).1 (O j).2 g⟩,λb o g n _=>by rw[upd_ne (nT b o g)];exact n,λb o g j=>⟨o,Y b o (O j).1 (O j).2 g⟩,
    λb ys g=>by rw[upd_ne (aQ8 g d)];exact g,λb o v g=>by rw[upd_ne (aQ8 g d)];exact g,λb ps g=>⟨#[],by rw[upd_ne (aQ8 g d),g];simp⟩⟩
  have I2:Inv X pins σ (upd H s.heap.objs.size (.tup [.int i,x])) {s with heap:=h2,toks:=U+1}:=I.call' (s':={s with heap:=h2,toks:=U+1}) rfl un hok I.bare λb j=>by
   rcases aA.mp j with rfl|j
   ·exact⟨fe.2.2.2.1,fe.2.1,fe.2.2.2.2.1,fe.2.2.2.2.2⟩
   ·have:=aG.mp j
    subst this;exact⟨fi.2.2.2.1,fi.2.1,fi.2.2.2.2.1,fi.2.2.2.2.2⟩
  refine⟨.ref s.heap.objs.size,_,I2,rfl,⟨_,x,d,rfl,rfl,λys hy=>by rw[I.tuple_inj hy hq];exact hx⟩,⟨⟨_,by simpa using he2⟩,?_⟩,λb j=>?_⟩
  ·obtain⟨o,g,r⟩:=hs'.1;exact⟨o,(J.2 it (cv hei)).trans g,r⟩
  ·have hb':b<s.heap.objs.size:=by
    rcases aA.mp j with rfl|j
    ·exact Z
    ·have:=aG.mp j
     subst this;obtain⟨o,g,_⟩:=D;exact aB g
   rw[upd_ne (Nat.ne_of_lt hb')];exact(hf b j).1
 done:=by
  intro X hP hw hK hc i pins s σ H E I hf st hg;subst hP hw hK;obtain⟨xs,hq,hx⟩:=hg;obtain⟨its,rv,p,hz⟩:=I.tuple hq;obtain⟨⟨old,he⟩,D⟩:=st;have hl:=rv.length;have hh:X.A.in1.handled=none:=by have:=I.ok.hd hc;simp[this]
  have hT:s.heap.IsTuple a its.toArray:=p;obtain⟨f0,f1,f2,f3,f4,f5⟩:=hf it (by simp)
  have hT2:s.TypeIs (.ref e) "enumerate":=⟨_,he,rfl⟩;unfold ff;refine aa (gj (cj (name:=aP "__next__") hT2 F.slot_enumerate_next (b9 F.slot_enumerate_next hT2 F.entry_enumerate_next ?_ (F.args_enumerate_next_1 _))));refine aa (m:=field (.ref e) 2) (cR he rfl (x:=.ref it) rfl (aa (cQo hh D hT (by simp;lia) λh' x he' hx'=>?_)))
  obtain⟨o,L,B⟩:=hx';refine aa (fT (T:="StopIteration") (b:=true) ⟨o,L,B⟩ iY ?_);exact af ⟨rfl,I.turned (t':=s.toks) (λb o j g=>he' b o j g) f0 f1 f3 f4 f5⟩
 self:=λA i s Q E st h=>by
  obtain⟨⟨old,he⟩,_⟩:=st;exact gR he h
section
variable{X:Cx}
def iEnT(K:Fg)(ta:TA):TI:=fun σ H R=>ta σ H λvs H1=>∃a,vs=[.ref a]/\(∃xs,SqT K H1 a xs)/\R (Ite K a) H1
theorem fJw{e:Expr}{ta:TA}{p pos:Pos}{elts:List Expr}{x1:Nat}{tpos:Pos}(hg:Gl X "enumerate")(hm:X.mg "enumerate"=none)(ha:PA X [e] ta)(hs:au [e] X.env=[(false,eval e X.env)]:=by rfl) :
  PI X (.Tuple elts x1 tpos) (.Call (.Name "enumerate" p) [e] [] pos) (iEnT X.K ta):=by
 intro pins s σ H R I h;refine Call_ (ld_blt I hg hm iF (cT (thn (ha pos pins s σ H _ I h) λus s1 ⟨vs,H1,d,D,G⟩=>?_) hs rfl));obtain⟨a,rfl,⟨xs,J⟩,q⟩:=G;obtain⟨u,rfl,rx⟩:=aX9 D;cases rx;obtain⟨j,O,pl,U⟩:=d.tuple J;have i:a<s1.heap.objs.size:=by obtain⟨o,e,_⟩:=id pl;exact aB e
 refine eQz (show s1.heap.IsTuple a j.toArray from pl) λh' he hi L=>gR he ?_
 refine⟨s1.heap.objs.size+1,[s1.heap.objs.size+1,s1.heap.objs.size],_,_,H1,rfl,d.kept (t':=s1.toks) L,eZ0 a s1.heap.objs.size (s1.heap.objs.size+1) (Nat.succ_ne_self _) (Nat.ne_of_lt (Nat.lt_succ_of_lt i)) (Nat.ne_of_lt i),⟨⟨_,he⟩,hi⟩,λb B=>?_,q⟩;rcases aA.mp B with rfl|B
 ·exact d.fpOk (Nat.le_succ _) (d.hok.fresh (Nat.le_succ _))
 ·have:=aG.mp B
  subst this;exact d.fpOk (Nat.le_refl _) (d.hok.fresh (Nat.le_refl _))
end
end L2
namespace HT
open PySem PyProof.Rows
def ltS(a b:Str):Bool:=decide (a.cps.toList<b.cps.toList)
def lexS:List Str->List Str->Bool
 |[],[]=>false
 |[],_::_=>true
 |_::_,[]=>false
 |x::xs,y::ys=>if x=y then lexS xs ys else ltS x y
theorem lexS_cons(x y:Str)(xs ys:List Str):lexS (x::xs) (y::ys)=if x=y then lexS xs ys else ltS x y:=rfl
theorem bXk:lexS [] []=false:=rfl
theorem lexS_nil_cons(y:Str)(ys:List Str):lexS [] (y::ys)=true:=rfl
theorem lexS_cons_nil(x:Str)(xs:List Str):lexS (x::xs) []=false:=rfl
abbrev SAre:List ad->List Str->Prop:=a9 λv x=>∃t,v=.str x t
theorem SAre.len{l:List ad}{m:List Str}(h:SAre l m):l.length=m.length:=cq h
theorem eZ1(A:bi)(s:aj)(a:Str)(t:Tok)(c:Str)(u:Tok):∃e,dw A s (.str a t) (.str c u) e/\(e=true↔a=c) :=
 ⟨(a==c),iZ a t c u,by simp⟩
theorem eZ2(A:bi)(s:aj)(a:Str)(t:Tok)(c:Str)(u:Tok)(prog:aD)(w:aR)(E:ad->aj->Prop)(Q:ad->aj->Prop)(h:Q (.bool (ltS a c)) s) :
  aH (aF prog w) A (richCompare .Lt (.str a t) (.str c u)) Q E s :=
 (ku h:aH (aF prog w) A (cu .Lt (.str a t) (.str c u)) Q E s)
section
open PySem.SeqAt
open PySem.AutoSeq1 (wpAny_loadPart')
open PySem.MeetsSeq PySem.MeetsSeq2 PySem.MeetsSeq3
theorem tuple_lt_strs(l b:Addr)(items items2:Array ad)(n n2:Nat)(dd dd2:Option Addr)(sl sl2:Array (Option ad))(ns ms:List Str)(hi:SAre items.toList ns)(hj:SAre items2.toList ms) :
  Meets (cI.«tuple.__lt__» ⟨[.ref l,.ref b],[]⟩)
   (λ_ R s=>s.heap.get? l=some { cls:=.type "tuple",dict:=dd,data:=.seq items n,slots:=sl }/\s.heap.get? b=some { cls:=.type "tuple",dict:=dd2,data:=.seq items2 n2,slots:=sl2 } /\
    R (.ok (.ret (.bool (lexS ns ms)))) s) :=
 .of_wp λprog w A R s h=>by
  obtain⟨Y,g,d,U,os⟩:=s;obtain⟨hl,hb,h⟩:=h;have f2:=AutoSeq1.sub_tuple_tuple;have z1:items.size=ns.length:=by rw[<- hi.len];simp
  have z2:items2.size=ms.length:=by rw[<- hj.len];simp
  wp_walk using gu hl,gu hb,jE _ (λrest b s'=>b.1=none/\s'=⟨Y,g,d,U,os⟩/\∃ (vs ws:List ad) (i j:List Str),rest=vs.zip ws /\
   SAre vs i/\SAre ws j/\i.length+items2.size=j.length+items.size/\R (.ok (.ret (.bool (lexS i j)))) ⟨Y,g,d,U,os⟩) _
  case turn =>
   rintro⟨y,x⟩ rest b s' ⟨J,rfl,vs,ws,i,j,hz,hvi,hwi,hlen,D⟩;cases hvi with
   |nil=>rw[List.zip_nil_left] at hz;cases hz
   |@cons va a _ _ ha O =>
    obtain⟨t,rfl⟩:=ha;cases hwi with
    |nil=>rw[gy] at hz;cases hz
    |@cons vc c _ _ hc L =>
     obtain⟨u,rfl⟩:=hc;rw[fw] at hz;injection hz with Z G
     injection Z with hy hx
     subst hy hx;rw[lexS_cons] at D;simp only[aT] at hlen;obtain⟨e,he,B⟩:=eZ1 A.in1 ⟨Y,g,d,U,os⟩ a t c u;refine aa (he prog w _ _ ?_);cases e with
     |true =>
      rw[if_pos (B.mp rfl)] at D
      wp_walk
      exact⟨rfl,rfl,_,_,_,_,G,O,L,by lia,D⟩
     |false =>
      rw[if_neg (λq=>absurd (B.mpr q) ce)] at D;have hri:=eZ2 A.in1 ⟨Y,g,d,U,os⟩ a t c u prog w
      wp_walk using hri
      exact⟨_,rfl,by simpa using D⟩
  case fin =>
   rintro⟨b1,b2⟩ s' ⟨J,rfl,vs,ws,i,j,hz,hvi,hwi,hlen,D⟩;simp only at J;subst J;have hv:lexS i j=decide (items.size<items2.size):=by
    cases hvi with
    |nil =>
     cases hwi with
     |nil =>
      simp only[cZ] at hlen;rw[bXk];exact(decide_eq_false (by lia)).symm
     |cons hc hw =>
      simp only[cZ,aT] at hlen;rw[lexS_nil_cons];exact(decide_eq_true (by lia)).symm
    |cons ha hv =>
     cases hwi with
     |nil =>
      simp only[cZ,aT] at hlen;rw[lexS_cons_nil];exact(decide_eq_false (by lia)).symm
     |cons hc hw =>
      rw[fw] at hz;cases hz
   rw[hv] at D
   wp_walk
   exact⟨_,rfl,by simpa [cI.Tuple.tupleCompareSizes] using D⟩
  case h =>
   exact⟨rfl,rfl,items.toList,items2.toList,ns,ms,rfl,hi,hj,by lia,h⟩
end
section
variable{prog:aD}{w:aR}{A:bi}{E:ad->aj->Prop}{s:aj}
theorem lt_tupStrs{l b:Addr}{items items2:Array ad}{ns ms:List Str}{Q:ad->aj->Prop}(hl:IsTup s.heap l items)(hb:IsTup s.heap b items2)(hi:SAre items.toList ns)(hj:SAre items2.toList ms)
  (hu:A.units<cQ) (h:Q (.bool (lexS ns ms)) s):aH (aF prog w) A (cu .Lt (.ref l) (.ref b)) Q E s:=by
 obtain⟨⟨cls,dd,data,sl⟩,D,G,n,hd⟩:=id hl;obtain⟨⟨J,B,data2,j⟩,d,i,L,hd2⟩:=id hb;simp only at G hd i hd2;subst G hd i hd2;exact richCompare_meets_room (op:=.Lt) ⟨_,D,rfl⟩ ⟨_,d,rfl⟩ gZ jY (jH _ _) (tuple_lt_strs l b items items2 n L dd B sl j ns ms hi hj)
  ⟨D,d,show kA (lexS ns ms)≠ad.notImplemented/\Q (.bool (lexS ns ms)) s from⟨(λx=>nomatch x),h⟩⟩ hu
end
end HT
namespace L2
open PySem PySem.Spec PyProof.Rows
theorem bQf{H:Hp}:∀{xs:List V}{us:List ad}{ds:List Str},a9 (dS H) xs ds->Vals xs us->HT.SAre us ds
 |_,_,_,.nil,.nil=>.nil
 |_,_,_,.cons p q,.cons r t=>by
  cases p;exact .cons r (bQf q t)
def rLtS(K:Fg):R2:=λx y H Q=>∃d e,dT K dS H x d/\dT K dS H y e/\Q (.bl (HT.lexS d e)) H
theorem fQw{X:Cx}(hu:X.A.units<cQ):OpR X (cu .Lt) (rLtS X.K):=by
 intro pins s σ H x y v u Q I rx ry h;obtain⟨d,e,⟨a,xs,rfl,U,G⟩,⟨b,ys,rfl,O,D⟩,q⟩:=h;cases rx;cases ry;obtain⟨L,B,J,_⟩:=I.tuple U;obtain⟨i,j,p2,_⟩:=I.tuple O;exact HT.lt_tupStrs J p2 (bQf G B) (bQf D j) hu ⟨.bl (HT.lexS d e),H,I,rfl,q⟩
end L2
set_option maxHeartbeats 1000000
namespace L2
open PySem PySem.Spec PyProof.Rows
variable{α β γ:Type}
theorem fJx(l:List α)(h:l≠[]):atI l (-1)=some (l.getLast h):=by
 unfold atI ixN;have hl:0<l.length:=dg.mpr h;have e:(-1+(l.length:Int)).toNat=l.length-1:=by omega
 rw[if_neg (by decide),if_pos (by omega),e]
 show l[l.length-1]?=_;rw[List.getLast_eq_getElem,ag (by omega)]
theorem nd_(l:List Str)(h:l.Nodup:=by decide +kernel):l.Nodup:=h
theorem lt64{k n:Nat}{A:bi}(r:Room k A)(h:n<=64:=by decide):A.units+n<cQ:=by have:=r.units;omega
section
variable{X:Cx}{K:Fg}{tg:Expr}{a:Expr}{ta:TE}
theorem eZ3(hK:X.K=K:=by rfl):SlR X (rSlT K):=hK▸fQi
theorem dZf(hK:X.K=K:=by rfl):SlR X (rSlL K):=hK▸eQm
theorem dZg(hK:X.K=K:=by rfl):OpR X (eC .Add) (eQk K):=hK▸eQl
theorem bJm(hK:X.K=K:=by rfl):CallR X (.type "tuple") (λxs H Q=>∃p ys,xs=[.ref p]/\((SqL K H p ys/\∀l,H l=none->Q (.ref l) (upd H l (.tup ys)))\/(SqT K H p ys/\Q (.ref p) H))):=hK▸call_tuple_of
theorem cJ7(hK:X.K=K:=by rfl)(hc:X.calm=true:=by rfl):CallR X (.builtin "all") (λxs H Q=>∃x bs,xs=[x]/\dL K dB H x bs/\Q (.bl (bs.all id)) H):=hK▸cJ3 hc
theorem cJ8(hK:X.K=K:=by rfl)(hc:X.calm=true:=by rfl):CallR X (.builtin "any") (λxs H Q=>∃x bs,xs=[x]/\dL K dB H x bs/\Q (.bl (bs.any id)) H):=hK▸cJ4 hc
theorem eZ4(hu:X.A.units<cQ)(hK:X.K=K:=by rfl):OpR X (cu .Lt) (rLtS K):=hK▸fQw hu
theorem cJ9(ha:PE X a ta)(he:∀whole,isTrue a X.env whole=(do let v <- whole;fR a.pos;fQ [v] (truthy v)))(hK:X.K=K:=by rfl):PT X a (fun σ H Q=>ta σ H λx H'=>∃k,TruV K x H' k/\Q k H'):=by subst hK;exact dQw ha he
theorem fQx{e:Expr}{ta:TA}{p pos:Pos}{elts:List Expr}{x1:Nat}{tpos:Pos}(hg:Gl X "enumerate")(hm:X.mg "enumerate"=none)(ha:PA X [e] ta)(hs:au [e] X.env=[(false,eval e X.env)]:=by rfl)(hK:X.K=K:=by rfl) :
  PI X (.Tuple elts x1 tpos) (.Call (.Name "enumerate" p) [e] [] pos) (iEnT K ta):=by subst hK;exact fJw hg hm ha hs
end
end L2
set_option maxHeartbeats 4000000
namespace KS
open PySem PySem.W PyProof.Rows
variable{lt:Nat->Nat->Bool}{n:Nat}
end KS
set_option maxHeartbeats 1000000
namespace ST
open PySem PySem.SetTable PySem.Spec PyProof.Rows
theorem bQw:entryFor table "set.__iter__"=some cI.«frozenset.__iter__»:=entryFor_alias (id':="frozenset.__iter__") (by kernel_rfl) rfl (by decide +kernel) (by kernel_rfl)
theorem slot_setit_next:Slot "set_iterator" "__next__" "set_iterator.__next__" :=
 .of (owner:="set_iterator") (n:="__next__") (by rw[typeLookup_type,builtinLookup_eq_fast];kernel_rfl) (by decide +kernel) (by decide +kernel) (by decide +kernel)
  (by first|exact .inl (by decide +kernel)|exact .inr (by decide +kernel)) (by rw[isSubtype_type];kernel_rfl)
theorem aJr:entryFor table "set_iterator.__next__"=some cI.«set_iterator.__next__»:=entryFor_of_tree (by kernel_rfl)
theorem bQg(a:ad):argsOk "set_iterator.__next__" ⟨[a],[]⟩:=by unfold argsOk;kernel_rfl
theorem dZh:typeLookup (.type "set") "__len__"=pure (some (.builtin "set.__len__")):=by rw[typeLookup_type,builtinLookup_eq_fast];kernel_rfl
section
variable{prog:aD}{w:aR}{A:bi}{E:ad->aj->Prop}{s:aj}
theorem eZ5{p:Addr}{es:Array (Int×ad)}{ep:Nat}{t:aZ}{Q:Bool->aj->Prop}(ho:s.heap.get? p=some (setOb es ep t))(h:Q false s):aH (aF prog w) A (iG (.ref p)) Q E s:=by
 have d:s.TypeIs (.ref p) "set":=⟨_,ho,rfl⟩;unfold iG;refine aa (wpAny_specialOf d dZh ?_);dsimp only;have j:splitId "set.__len__"=some ("set", "__len__"):=by decide +kernel
 rw[j];dsimp only;refine aa (fT (b:=true) d (by rw[isSubtype_type];kernel_rfl) ?_)
 rw[if_neg (show ¬ ((!true)=true) by decide)]
 refine ix (λi=>?_) (λi=>absurd (by decide +kernel) i)
 refine aa (gI d ?_);exact af h
theorem bZa{α:Type}{l:List α}{i:Nat}(h:i<l.length):(l[i]::l.eraseIdx i).Perm l:=by
 have e:l=l.take i++l[i]::l.drop (i+1):=by
  rw[<- da h,bQ]
 rw[List.eraseIdx_eq_take_drop_succ];refine eH.symm.trans ?_;rw[<- e]
theorem eZ6{n:Nat}{Q:Nat->aj->Prop}(hn:n≠0)(h:∀i,i<n->Q i {s with drawn:=s.drawn.bump .order}):aH (aF prog w) A (choose .order n) Q E s:=fun Γ p hΓ=>by
 show Sem.wp _ _ (.choose .order n .pure) _ _ _ _;rw[Sem.wp_choose];exact⟨hn,h _ (Nat.mod_lt _ (Nat.pos_of_ne_zero hn))⟩
theorem fQy{α:Type}:∀(n:Nat) (xs:List α) {s:aj}{Q:List α->aj->Prop},xs.length=n->(∀ys d,ys.Perm xs->Q ys {s with drawn:=d})->aH (aF prog w) A (drawOrder n xs) Q E s
 |0,xs,s,Q,hl,h=>by
  have e:xs=[]:=gB.mp hl;subst e;unfold drawOrder;exact af (h [] s.drawn (dM _))
 |n+1,xs,s,Q,hl,h=>by
  cases xs with
  |nil=>cases hl
  |cons x r =>
   unfold drawOrder;refine aa ?_;have j:(x::r).length≠0:=by simp
   refine eZ6 j λi hi=>?_;have D:(x::r)[i]?=some (x::r)[i]:=ag hi;rw[D];dsimp only;refine aa (fQy n ((x::r).eraseIdx i) (s:={s with drawn:=s.drawn.bump .order}) (by rw[i4 hi];simp at hl ⊢;omega) λys d B=>?_)
   refine af (h _ d ?_);refine(B.cons _).trans ?_;exact bZa hi
theorem bXl{α:Type}(next:Nat->Nat):∀(fuel k:Nat) (left:List α) (out:Array α),left.length=fuel->(kE next fuel k left out).toList.Perm (out.toList++left)
 |0,k,left,out,hl=>by
  have e:left=[]:=gB.mp hl;subst e;unfold kE;rw[bD]
 |fuel+1,k,left,out,hl=>by
  unfold kE;have hi:next k%left.length<left.length:=Nat.mod_lt _ (by omega)
  rw[ag hi];dsimp only;refine(bXl next fuel (k+1) _ _ (by rw[i4 hi];omega)).trans ?_
  rw[cy,a6];exact dX _ (bZa hi)
theorem bQx{α:Type}(next:Nat->Nat)(xs:Array α):(iM next xs).toList.Perm xs.toList:=by
 have:=bXl next xs.size 0 xs.toList #[] (by simp)
 simpa [iM] using this
def itOb(first:ad)(i:Nat)(p:Addr)(n ep:Nat):Obj:={cls:=.type "set_iterator",dict:=none,data:=.fields #[first,.int i 0,.ref p,.int n 0,.int ep 0],slots:=#[]}
theorem eZ7{I:Addr}{Q:Option ad->aj->Prop}{s:aj}(hh:A.in1.handled=none)(h:∀h',(∀b o,s.heap.get? b=some o->h'.get? b=some o)->Q none {s with heap:=h'}) :
  aH (aF prog w) A.in1 (newExc (.type "StopIteration") []>>=λe=>(raiseNew e:Sem Fin)) (λfin s'=>∃r,fin=.done (.ret r)/\aH (aF prog w) A (pure (some r)) Q E s') (λe s'=>aH (aF prog w) A (do if <- isInstance e (.type "StopIteration") then pure none else throw e) Q E s') s:=by
 refine aa ?_;simp only[newExc,newTuple];refine aa (bz ?_ (by size_fits))
 refine aa (m:=iX _ _) (jh (a:=cC) (by first|rfl|(simp only[iX];rfl)) ?_)
 refine bz ?_ (by size_fits)
 simp only[raiseNew];refine aa (wpAny_handled ?_);rw[hh];refine aa (af (wpAny_throw ?_));refine aa (fT (T:="StopIteration") (b:=true) ⟨_,av _ rfl,rfl⟩ iY ?_);exact af (h _ λb o e=>ah _ (ah _ e))
theorem aJf{I p:Addr}{es:Array (Int×ad)}{ep:Nat}{t:aZ}{first:ad}{i:Nat}{Q:Option ad->aj->Prop}(hp:s.heap.get? p=some (setOb es ep t))(hf:t.fits es.size=true)(hI:s.heap.get? I=some (itOb first i p es.size ep))
  (h:aH (aF prog w) A.in1 (if let .int slot _:=first then do
    match <- setNext p slot.toNat (i:Int).toNat (ep:Int).toNat with
    |some (x,next)=>do
     kl (.ref I) 0 (fq next)
     kl (.ref I) 1 (fq ((i:Int)+1))
     ret x
    |none=>do kl (.ref I) 2 .none;raiseNew (<- newExc (.type "StopIteration") [])
   else do
    let some places <- jG first|fo "internal:set_iterator"
    match places[(i:Int).toNat]? with
    |some (.int place _)=>do
     let x <- setNextDrawn p place.toNat (ep:Int).toNat
     kl (.ref I) 1 (fq ((i:Int)+1))
     ret x
    |some _=>fo "internal:set_iterator"
    |none=>do kl (.ref I) 0 (fq 0);kl (.ref I) 2 .none;raiseNew (<- newExc (.type "StopIteration") []))
   (λfin s'=>∃r,fin=.done (.ret r)/\aH (aF prog w) A (pure (some r)) Q E s') (λe s'=>aH (aF prog w) A (do if <- isInstance e (.type "StopIteration") then pure none else throw e) Q E s') s) :
  aH (aF prog w) A (ff (.ref I)) Q E s:=by
 have d:s.TypeIs (.ref I) "set_iterator":=⟨_,hI,rfl⟩;unfold ff;refine aa (gj (cj (name:=aP "__next__") d slot_setit_next
  (b9 slot_setit_next d aJr ?_ (bQg _))))
 unfold cI.«set_iterator.__next__» slotArgs;simp only[jI,fC,aS,↓reduceIte,bind_assoc,cZ,bne_self_eq_false];refine aa (af ?_)
 try dsimp only
 refine aa (wpAny_fieldsOf hI rfl ?_);dsimp only;refine aa (wpAny_setEntries_of hp rfl hf ?_);rw[if_neg (by simp)]
 exact h
structure Gives(prog:aD)(w:aR)(A:bi)(I:Addr)(fp:List Addr)(vals:List ad)(St:Nat->bj->Prop):Prop where
 mem:I∈fp
 frame:∀i h h',St i h->(∀b∈fp,∀o,h.get? b=some o->h'.get? b=some o)->St i h'
 item:∀(i:Nat) (s:aj) (v:ad) (Q:Option ad->aj->Prop) (E:ad->aj->Prop),vals[i]?=some v->St i s.heap ->
  (∀h',St (i+1) h'->(∀b o,b≠I->s.heap.get? b=some o->h'.get? b=some o)->Q (some v) {s with heap:=h'})->aH (aF prog w) A (ff (.ref I)) Q E s
 done:∀(s:aj) (Q:Option ad->aj->Prop) (E:ad->aj->Prop),St vals.length s.heap ->
  (∀h',(∀b o,b≠I->s.heap.get? b=some o->h'.get? b=some o)->Q none {s with heap:=h'})->aH (aF prog w) A (ff (.ref I)) Q E s
theorem cQp{p:Addr}{es:Array (Int×ad)}{ep i:Nat}{t:aZ}{Q:Option (ad×Nat)->aj->Prop}(hp:s.heap.get? p=some (setOb es ep t))(hf:t.fits es.size=true)(hw:w.params.followText "set-order"=true)
  (h:Q (((iM (w.params.setOrder p ep) es)[i]?).map λe=>(e.2,0)) s):aH (aF prog w) A (setNext p (0:Int).toNat (i:Int).toNat (ep:Int).toNat) Q E s:=by
 unfold setNext;refine aa (dN hp rfl hf ?_);dsimp only;unfold jZ;refine aa (aa (dA (af ?_)));have d:(aF prog w).w.params.followText "set-order"=true:=hw;rw[d,if_pos rfl,if_neg (by simp)]
 unfold setWalk;refine aa (aa (dN hp rfl hf ?_));dsimp only;unfold jZ;refine aa (aa (dA (af ?_)));rw[d,if_pos rfl];refine aa (dA ?_);refine af (af ?_);rw[cL];exact h
theorem fQz{p I T:Addr}{es:Array (Int×ad)}{ep:Nat}{t:aZ}{vals:List ad}{places:Array ad}(hh:A.in1.handled=none)(hTI:T≠I)(hpI:p≠I)(hl:places.size=vals.length)
  (hpl:∀(j:Nat) (pl:ad),places[j]?=some pl->∃q:Nat,pl=kr (q:Int) 0/\∃e,es[q]?=some e/\vals[j]?=some e.2) :
  Gives prog w A I [I,p,T] vals (λi h=>h.get? p=some (setOb es ep t)/\t.fits es.size=true/\h.get? I=some (itOb (.ref T) i p es.size ep)/\∃o c,h.get? T=some o/\o.data=.seq places c) where
 mem:=by simp
 frame:=λi h h' st k=>by
  obtain⟨h1,h2,d,o,c,D,B⟩:=st;exact⟨k p (by simp) _ h1,h2,k I (by simp) _ d,o,c,k T (by simp) _ D,B⟩
 item:=λi s v Q E U st J=>by
  obtain⟨h1,h2,d,o,c,D,B⟩:=st;refine aJf h1 h2 d ?_;dsimp only;refine aa (cA D B ?_);dsimp only;have hi:i<places.size:=by rw[hl];exact(ay.mp U).1
  obtain⟨q,e1,e,e2,Y⟩:=hpl i places[i] (by simp[hi])
  have O:places[(i:Int).toNat]?=some (kr (q:Int) 0):=by rw[cL,<- e1];simp[hi]
  rw[O];dsimp only;have ev:e.2=v:=by rw[U] at Y;exact(aN Y).symm
  refine aa ?_;unfold setNextDrawn;refine aa (dN h1 rfl h2 ?_);dsimp only;rw[if_neg (by simp),cL,e2]
  dsimp only;refine af ?_;refine aa (bK d (by show 1<5;decide) λh' g1 g2=>?_)
  rw[ev];refine af ⟨v,rfl,af (J h' ⟨?_,h2,?_,o,c,?_,B⟩ λb o' G e=>(g2.2 b G).trans e)⟩
  ·exact(g2.2 p hpI).trans h1
  ·exact g1
  ·exact(g2.2 T hTI).trans D
 done:=λs Q E st J=>by
  obtain⟨h1,h2,d,o,c,D,B⟩:=st;refine aJf h1 h2 d ?_;dsimp only;refine aa (cA D B ?_);dsimp only;have O:places[(vals.length:Int).toNat]?=none:=by rw[cL,<- hl];simp
  rw[O];dsimp only;refine aa (bK d (by show 0<5;decide) λh' g1 g2=>?_)
  refine aa (bK g1 (by show 2<5;decide) λZ g3 g4=>?_)
  exact eZ7 (I:=I) hh λL k=>J L λb o' G e=>k b o' ((g4.2 b G).trans ((g2.2 b G).trans e))
theorem fZ0{p I:Addr}{es:Array (Int×ad)}{ep:Nat}{t:aZ}{vals:List ad}(hh:A.in1.handled=none)(hpI:p≠I)(hw:w.params.followText "set-order"=true)(hv:vals=(iM (w.params.setOrder p ep) es).toList.map (·.2)) :
  Gives prog w A I [I,p] vals (λi h=>h.get? p=some (setOb es ep t)/\t.fits es.size=true/\h.get? I=some (itOb (.int 0 0) i p es.size ep)) where
 mem:=by simp
 frame:=λi h h' st k=>by
  obtain⟨h1,h2,d⟩:=st;exact⟨k p (by simp) _ h1,h2,k I (by simp) _ d⟩
 item:=λi s v Q E hv' st G=>by
  obtain⟨h1,h2,d⟩:=st;refine aJf h1 h2 d ?_;dsimp only;refine aa (cQp h1 h2 hw ?_);have L:((iM (w.params.setOrder p ep) es)[i]?).map (λe=>(e.2,0))=some (v,0):=by
   rw[hv,aQ,a7] at hv';cases q:(iM (w.params.setOrder p ep) es)[i]? with
   |none=>rw[q] at hv';cases hv'
   |some e=>rw[q] at hv';cases hv';rfl
  rw[L];dsimp only;refine aa (bK d (by show 0<5;decide) λh' g1 g2=>?_)
  refine aa (bK g1 (by show 1<5;decide) λj g3 D=>?_)
  refine af ⟨v,rfl,af (G j ⟨?_,h2,g3⟩ λb o' B e=>(D.2 b B).trans ((g2.2 b B).trans e))⟩;exact(D.2 p hpI).trans ((g2.2 p hpI).trans h1)
 done:=λs Q E st G=>by
  obtain⟨h1,h2,d⟩:=st;refine aJf h1 h2 d ?_;dsimp only;refine aa (cQp h1 h2 hw ?_);have L:(iM (w.params.setOrder p ep) es)[vals.length]?=none:=by
   rw[hv];simp
  rw[L];dsimp only[Option.map];refine aa (bK d (by show 2<5;decide) λj g3 D=>?_)
  exact eZ7 (I:=I) hh λJ k=>G J λb o' B e=>k b o' ((D.2 b B).trans e)
end
end ST
set_option maxHeartbeats 4000000
namespace ST
open PySem PySem.SetTable PySem.Spec PyProof.Rows
section
variable{prog:aD}{w:aR}{A:bi}{E:ad->aj->Prop}{s:aj}
theorem bXm{p:Addr}{es:Array (Int×ad)}{ep i sl:Nat}{t:aZ}{Q:Option (ad×Nat)->aj->Prop}(hp:s.heap.get? p=some (setOb es ep t))(hf:t.fits es.size=true)(hw:w.params.followText "set-order"=false)(hled:t.led=true)(h1:es.size<=1)
  (h:Q (match es[below t.place sl]?,t.place[below t.place sl]? with|some (_,x),some j=>some (x,j+1)|_,_=>none) s):aH (aF prog w) A (setNext p (sl:Int).toNat (i:Int).toNat (ep:Int).toNat) Q E s:=by
 unfold setNext;refine aa (dN hp rfl hf ?_);dsimp only;unfold jZ;refine aa (aa (dA (af ?_)));have d:(aF prog w).w.params.followText "set-order"=false:=hw;rw[d,if_neg ce];refine ix (λD=>?_) (λ_=>?_)
 ·have B:(!t.plain&&decide (es.size>1))=true:=D;simp only[aL,decide_eq_true_eq] at B;lia
 ·refine aa ?_;show aH _ _ (if (!t.led && !es.isEmpty)=true then fo "set:maker-not-led" else pure ()) _ _ _
  rw[hled,if_neg (by simp)]
  refine af ?_;refine af ?_;rw[cL];exact h
theorem bXn(j sl:Nat):below #[j] sl=if j<sl then 1 else 0:=by
 unfold below;simp only[aq,dW];unfold below.go;simp only[Nat.lt_irrefl,if_true,Nat.zero_lt_one]
 split
 ·rename_i h;have h':j<sl:=by simpa using h
  rw[if_pos h'];rfl
 ·rename_i h;have h':¬ j<sl:=by simpa using h
  rw[if_neg h'];rfl
theorem cQq{es:Array (Int×ad)}{t:aZ}(hf:t.fits es.size=true):t.place.size=es.size:=by
 unfold ky at hf;simp only[aL,beq_iff_eq] at hf;exact hf.1
theorem fZ1{p I:Addr}{es:Array (Int×ad)}{ep:Nat}{t:aZ}{vals:List ad}(hh:A.in1.handled=none)(hpI:p≠I)(hw:w.params.followText "set-order"=false)(hled:t.led=true)(h1s:es.size<=1)(hv:vals=es.toList.map (·.2)) :
  Gives prog w A I [I,p] vals (λi h=>h.get? p=some (setOb es ep t)/\t.fits es.size=true/\∃sl:Nat,h.get? I=some (itOb (.int sl 0) i p es.size ep)/\(i=0->sl=0)/\(i=1->∀j,t.place=#[j]->sl=j+1)) where
 mem:=by simp
 frame:=λi h h' st k=>by
  obtain⟨h1,h2,sl,B,O⟩:=st;exact⟨k p (by simp) _ h1,h2,sl,k I (by simp) _ B,O⟩
 item:=λi s v Q E d st hQ=>by
  obtain⟨h1,h2,sl,B,O,h5⟩:=st;refine aJf h1 h2 B ?_;dsimp only;refine aa (bXm h1 h2 hw hled h1s ?_);have hi:i<es.size:=by
   have:=(ay.mp d).1
   rw[hv] at this;simpa using this
  have i0:i=0:=by lia
  subst i0;have Y:=O rfl;subst Y;have Z:=cQq h2;obtain⟨j,J⟩:∃j,t.place=#[j]:=by
   have:t.place.size=1:=by lia
   exact⟨t.place[0],Array.ext (by simp[this]) λk hk1 hk2=>by
    have:k=0:=by lia
    subst this;simp⟩
  rw[J,bXn,if_neg (Nat.not_lt_zero _)];have ee:es[0]?=some es[0]:=by simp[hi]
  have e0:es[0].2=v:=by
   rw[hv,aQ,a7,ee] at d;exact aN d
  have e1:es[0]?=some (es[0].1,v):=by rw[ee,<- e0]
  have e2:(#[j]:Array Nat)[0]?=some j:=rfl;rw[e1,e2];dsimp only;refine aa (bK B (by show 0<5;decide) λh' g1 g2=>?_)
  refine aa (bK g1 (by show 1<5;decide) λD g3 U=>?_)
  refine af ⟨v,rfl,af (hQ D ⟨?_,h2,j+1,g3,(λz=>nomatch z),λ_ j' G=>?_⟩ λb o' L e=>(U.2 b L).trans ((g2.2 b L).trans e))⟩
  ·exact(U.2 p hpI).trans ((g2.2 p hpI).trans h1)
  ·rw[J] at G
   have:=congrArg (λa:Array Nat=>a[0]?) G
   simp at this;rw[this]
 done:=λs Q E st hQ=>by
  obtain⟨h1,h2,sl,B,O,h5⟩:=st;refine aJf h1 h2 B ?_;dsimp only;refine aa (bXm h1 h2 hw hled h1s ?_);have hlen:vals.length=es.size:=by rw[hv];simp
  have Z:=cQq h2;have nn:es[below t.place sl]?=none:=by
   by_cases c:es.size=0
   ·simp[c]
   ·have c1:es.size=1:=by lia
    obtain⟨j,J⟩:∃j,t.place=#[j]:=by
     have:t.place.size=1:=by lia
     exact⟨t.place[0],Array.ext (by simp[this]) λk hk1 hk2=>by
      have:k=0:=by lia
      subst this;simp⟩
    have:=h5 (by lia) j J
    rw[J,bXn,if_pos (by lia)]
    simp[c1]
  rw[nn];dsimp only;refine aa (bK B (by show 2<5;decide) λD g3 U=>?_)
  exact eZ7 (I:=I) hh λh3' k=>hQ h3' λb o' L e=>k b o' ((U.2 b L).trans e)
theorem fJy{p:Addr}{es:Array (Int×ad)}{ep:Nat}{t:aZ}{Q:ad->aj->Prop}(hh:A.in1.handled=none)(hp:s.heap.get? p=some (setOb es ep t))(hf:t.fits es.size=true)(hled:t.led=ledOf w)(hpl:t.plain=true->es.size<=1)(hn:es.size<=300)
  (h:∀I fp vals St h' d,vals.Perm (es.toList.map (·.2))->Gives prog w A I fp vals St->St 0 h'->s.heap.objs.size<=I->(∀b∈fp,b=p\/s.heap.objs.size<=b)->(∀b o,s.heap.get? b=some o->h'.get? b=some o)->Q (.ref I) {s with heap:=h',drawn:=d}) :
  aH (aF prog w) A (jR (.ref p)) Q E s:=by
 have hT:s.TypeIs (.ref p) "set":=⟨_,hp,rfl⟩;have Z:p<s.heap.objs.size:=aB hp;refine wpAny_pyIter_slot hT kb (b9 kb hT bQw ?_ (PySem.F.args_set_iter_1 _));unfold cI.«frozenset.__iter__» cI.Frozenset.slot0 slotArgs;simp only[jI,fC,aS,↓reduceIte,bind_assoc,cZ,bne_self_eq_false];unfold jt cI.Frozenset.sizeOf;refine aa (af ?_)
 try dsimp only
 refine aa (af ?_);refine aa (aa (wpAny_setEntries_of hp rfl hf (af ?_)));unfold setDrawn jZ;refine aa (aa (dN hp rfl hf ?_));dsimp only;refine aa (aa (dA (af ?_)));refine af ?_;have fin:∀(first:ad) (h1:bj) (d:Drawn) (Q':Fin->aj->Prop),h1.get? p=some (setOb es ep t) ->
   Q' (.done (.ret (.ref h1.objs.size))) {s with heap:=h1.push (itOb first 0 p es.size ep),drawn:=d} ->
   aH (aF prog w) A.in1 (do
    let e <- setEpoch p
    let v <- newFields "set_iterator" [first,fq 0,.ref p,fq es.size,fq e]
    ret v) Q' E {s with heap:=h1,drawn:=d}:=by
  intro first h1 d Q' ho hQ';refine aa (wpAny_setEpoch_of (s:={s with heap:=h1,drawn:=d}) ho rfl hf ?_)
  exact aa (bz (af hQ'))
 refine ix (λhc=>?_) (λhc=>?_)
 ·refine aa (fQy es.size (aI es.size) (by simp) λys d B=>?_)
  have yl:ys.length=es.size:=by have:=B.length_eq;simpa using this
  have yr:∀q∈ys,q<es.size:=λq hq=>bo.mp (B.mem_iff.mp hq);obtain⟨f1,f2⟩:=cQj (l:=ys) (f:=λq=>(es[q]?).map (·.2)) (λq hq=>by have:=yr q hq;simp[this])
  refine aa (bz ?_ (by show(ys.map λ(i:Nat)=>fq i).toArray.size<=sizeLine;rw[aq,ae,yl,bu];lia))
  generalize O:s.heap.push _=h1;have D:h1.objs.size=s.heap.objs.size+1:=by rw[<- O,cx]
  have old:∀b o,s.heap.get? b=some o->h1.get? b=some o:=λb o e=>by rw[<- O];exact ah _ e
  have hTup:h1.get? s.heap.objs.size=some {cls:=.type "tuple",dict:=none,data:=.seq (ys.map λ(i:Nat)=>fq i).toArray}:=by rw[<- O];exact av _ rfl
  refine fin (.ref s.heap.objs.size) h1 d _ (old p _ hp) ?_;have G:=fQz (prog:=prog) (w:=w) (A:=A) (p:=p) (I:=h1.objs.size) (T:=s.heap.objs.size) (es:=es) (ep:=ep) (t:=t) (vals:=ys.filterMap λq=>(es[q]?).map (·.2)) (places:=(ys.map λ(i:Nat)=>fq i).toArray) hh (by rw[D];exact Nat.ne_of_lt (Nat.lt_succ_self _)) (by rw[D];exact Nat.ne_of_lt (Nat.lt_succ_of_lt Z)) (by simp[f1]) (λj pl hj=>by
   have hj':(ys.map λ(i:Nat)=>fq i)[j]?=some pl:=by simpa using hj
   rw[aQ] at hj';cases q:ys[j]? with
   |none=>rw[q] at hj';cases hj'
   |some z =>
    rw[q] at hj';have hz:=yr z (ak q);refine⟨z,(aN hj').symm,es[z],by simp[hz],?_⟩
    rw[f2 j,q];simp[hz])
  refine⟨_,rfl, "set_iterator",_,⟨_,av _ rfl,rfl⟩,slot_setit_next.lookup,h _ _ _ _ _ d ?_ G ⟨ah _ (old p _ hp),hf,av _ rfl,_,_,ah _ hTup,rfl⟩ (by rw[D];exact Nat.le_succ _) (λb hb=>?_) λb o e=>ah _ (old b o e)⟩
  ·refine(B.filterMap _).trans ?_;have e:(aI es.size).filterMap (λq=>(es[q]?).map (·.2))=es.toList.map (·.2):=by
    rw[<- cQl es,List.map_filterMap]
   rw[e]
  ·simp only[aA,c9,or_false] at hb;rcases hb with e|e|e
   ·right;rw[e,D];exact Nat.le_succ _
   ·exact .inl e
   ·right;rw[e];exact Nat.le_refl _
 ·refine aa (af ?_);refine fin (fq 0) s.heap s.drawn _ hp ?_;have U:p≠s.heap.objs.size:=Nat.ne_of_lt Z;have small:∀b∈[s.heap.objs.size,p],b=p\/s.heap.objs.size<=b:=λb hb=>by
   simp only[aA,c9,or_false] at hb;rcases hb with e|e
   ·right;rw[e];exact Nat.le_refl _
   ·exact .inl e
  by_cases hw:w.params.followText "set-order"=true
  ·have G:=fZ0 (prog:=prog) (w:=w) (A:=A) (p:=p) (I:=s.heap.objs.size) (es:=es) (ep:=ep) (t:=t) hh U hw rfl;exact⟨_,rfl, "set_iterator",_,⟨_,av _ rfl,rfl⟩,slot_setit_next.lookup,h _ _ _ _ _ s.drawn ((bQx _ _).map _) G ⟨ah _ hp,hf,av _ rfl⟩ (Nat.le_refl _) small λb o e=>ah _ e⟩
  ·have L:w.params.followText "set-order"=false:=eU.mpr hw;have h1:es.size<=1:=by
    have J:¬ ((!(w.params.followText "set-order")&&(!t.plain&&decide (es.size>1)))=true):=hc;rw[L] at J
    by_cases Y:t.plain=true
    ·exact hpl Y
    ·have:t.plain=false:=eU.mpr Y
     rw[this] at J;simp at J;exact J
   have hl':t.led=true:=by rw[hled];show(!(w.params.followText "set-order"))=true;rw[L];rfl
   have G:=fZ1 (prog:=prog) (w:=w) (A:=A) (p:=p) (I:=s.heap.objs.size) (es:=es) (ep:=ep) (t:=t) hh U L hl' h1 rfl;exact⟨_,rfl, "set_iterator",_,⟨_,av _ rfl,rfl⟩,slot_setit_next.lookup,h _ _ _ _ _ s.drawn (dM _) G ⟨ah _ hp,hf,0,av _ rfl,λ_=>rfl,(λz=>nomatch z)⟩ (Nat.le_refl _) small λb o e=>ah _ e⟩
theorem dZi{I S:Addr}{fp:List Addr}{vals:List ad}{St:Nat->bj->Prop}{R:Result->aj->Prop}(G:Gives prog w A.in1 I fp vals St)(hn:vals.length<=300)(hSf:S∉fp)(res:ad) :
  ∀(k i:Nat) (s:aj) (c:Nat),vals.length-i=k->i<=vals.length->St i s.heap->s.heap.get? S=some {cls:=.type "list",dict:=none,data:=.seq (vals.take i).toArray c,slots:=#[]} ->
  (∀h' c',(∀b o,b≠S->b≠I->s.heap.get? b=some o->h'.get? b=some o)->h'.get? S=some {cls:=.type "list",dict:=none,data:=.seq vals.toArray c',slots:=#[]}->R (.ok (.ret res)) {s with heap:=h'}) ->
  fu (aF prog w) A (.builtin "list.extend.loop" ⟨[.ref S,.ref I,res],[]⟩) R s:=by
 have O:S≠I:=λe=>hSf (e▸G.mem);intro k
 induction k with
 |zero =>
  intro i s c hk hi d Z hR;have hin:i=vals.length:=by lia
  subst hin;refine c5 jd ?_;rw[cB eN _];show aH _ A.in1 (ff (.ref I)>>=_) _ _ s;refine aa (G.done s _ _ d λh' D=>?_);rw[bI (Nat.le_refl _)] at Z;exact af (hR h' c (λb o _ hb e=>D b o hb e) (D S _ O Z))
 |succ k ih =>
  intro i s c hk hi d Z hR;have B:i<vals.length:=by lia
  have hv:vals[i]?=some vals[i]:=ag B;refine c5 jd ?_;rw[cB eN _];show aH _ A.in1 (ff (.ref I)>>=_) _ _ s;refine aa (G.item i s _ _ _ hv d λh1 st1 k1=>?_);have Y:=k1 S _ O Z;have szl:=bu;have j:(vals.take i).toArray.size=i:=by rw[aq,aK];lia
  show aH _ A.in1 (updateSeq S (·.push vals[i])>>=_) _ _ _;refine aa ?_;refine fz (s:={s with heap:=h1}) Y rfl (af ⟨eG eN _,?_⟩) (by rw[j];lia) (by show((vals.take i).toArray.push vals[i]).size<=sizeLine+1;rw[dQ,j];lia)
  have hS2:=cG (bO (·.push vals[i])) Y rfl;have et:(vals.take i).toArray.push vals[i]=(vals.take (i+1)).toArray:=by
   rw[bJ,hv];simp
  obtain⟨c1,U⟩:∃c1,(h1.update S (bO (·.push vals[i]))).get? S=some {cls:=.type "list",dict:=none,data:=.seq (vals.take (i+1)).toArray c1,slots:=#[]}:=⟨_,by rw[<- et];exact hS2⟩
  refine ih (i+1) {s with heap:=h1.update S (bO (·.push vals[i]))} c1 (by lia) B (G.frame _ _ _ st1 λb hb o e=>(bE _ _ (λh:S=b=>hSf (by rw[h];exact hb))).trans e) U λh' c' a1 a2=>?_
  ·exact hR h' c' (λb o L J e=>a1 b o L J ((bE _ _ (cv L)).trans (k1 b o J e))) a2
theorem collectT{p:Addr}{es:Array (Int×ad)}{ep:Nat}{t:aZ}{Q:List ad->aj->Prop}(hh:A.handled=none)(hp:s.heap.get? p=some (setOb es ep t))(hf:t.fits es.size=true)(hled:t.led=ledOf w)(hpl:t.plain=true->es.size<=1)(hn:es.size<=300)
  (h:∀vals h' d,vals.Perm (es.toList.map (·.2))->(∀b o,s.heap.get? b=some o->h'.get? b=some o)->Q vals {s with heap:=h',drawn:=d}):aH (aF prog w) A (collect (.ref p)) Q E s:=by
 have L:p<s.heap.objs.size:=aB hp;have hT:∀s':aj,s'.heap.get? p=some (setOb es ep t)->s'.TypeIs (.ref p) "set":=λs' e=>⟨_,e,rfl⟩;unfold collect;refine aa (wpAny_runValue (c5 PySem.F.entry_proto_collect ?_));rw[cB PySem.F.plain_proto_collect _];show aH _ A.in1 (newList []>>=λl=>again (.builtin "list.__iadd__" ⟨[l,.ref p],[]⟩)) _ _ s;refine aa (bz ?_);refine af ⟨eG jJ _,c5 PySem.F.entry_list_iadd ?_⟩;rw[cB jJ _];show aH _ A.in1 (iH (.ref s.heap.objs.size) (.ref p) (.ref s.heap.objs.size)) _ _ _;generalize D:s.heap.push _=h1;have old:∀b o,s.heap.get? b=some o->h1.get? b=some o:=λb o e=>by rw[<- D];exact ah _ e
 have J:h1.objs.size=s.heap.objs.size+1:=by rw[<- D,cx]
 have hS1:h1.get? s.heap.objs.size=some {cls:=.type "list",dict:=none,data:=.seq #[] 0,slots:=#[]}:=by rw[<- D];exact av _ rfl
 have B:=old p _ hp;unfold iH;refine aa (gI (hT {s with heap:=h1} B) ?_)
 have e1:ju (.ref s.heap.objs.size) (.ref p)=false:=by simp[ju,Nat.ne_of_gt L]
 rw[if_neg (by rw[e1];decide)]
 refine aa (fJy (s:={s with heap:=h1}) hh B hf hled hpl hn λI fp vals St h2 d j G Z hI hfp k2=>?_)
 have hvl:vals.length=es.size:=by have:=j.length_eq;simpa using this
 have hI':h1.objs.size<=I:=hI;have hSI:s.heap.objs.size≠I:=by lia
 refine aa (bG (eZ5 (k2 p _ B) ?_));have O:s.heap.objs.size∉fp:=λz=>by
  have q:=hfp _ z;have q':s.heap.objs.size=p\/h1.objs.size<=s.heap.objs.size:=q;rcases q' with e|e
  ·exact absurd e (Nat.ne_of_gt L)
  ·rw[J] at e;exact absurd e (Nat.not_succ_le_self _)
 refine ix (λ_=>?_) (λhc=>absurd (by decide +kernel) hc)
 refine aa (db ?_);refine aa ?_;have Y:=k2 _ _ hS1;show aH _ _ (updateSeq s.heap.objs.size (·.push .none)>>=λ_=>updateSeq s.heap.objs.size (·.pop)) _ _ _;refine aa (fz Y rfl ?_);have U:=cG (bO (·.push cC)) Y rfl;refine fz (hz:=by seq_fits) U rfl ?_
 have hS4:=cG (bO (·.pop)) U rfl;refine af ⟨eG eN _,?_⟩;refine dZi G (by lia) O _ (vals.length-0) 0 _ _ rfl (Nat.zero_le _) (G.frame _ _ _ Z λb hb o e=>?_) hS4 λh' c' a1 a2=>?_
 ·have i:b≠s.heap.objs.size:=λz=>O (z▸hb);exact(bE _ _ (cv i)).trans ((bE _ _ (cv i)).trans e)
 ·show aH _ A (load s.heap.objs.size>>=_) _ _ _;refine aa (wpAny_load a2 ?_)
  have:=h vals h' d j λb o e=>?_
  ·exact af this
  ·have i:b≠s.heap.objs.size:=Nat.ne_of_lt (aB e);have hbI:b≠I:=Nat.ne_of_lt (Nat.lt_of_lt_of_le (aB e) (Nat.le_trans (by rw[J];exact Nat.le_succ _) hI'))
   exact a1 b o i hbI ((bE _ _ (cv i)).trans ((bE _ _ (cv i)).trans (k2 b o (old b o e))))
end
end ST
namespace KS
open PySem PySem.W PyProof.Rows
def TS(h:bj)(v:ad)(d:List Str):Prop:=∃b items,v=.ref b/\IsTup h b items/\HT.SAre items.toList d
section
variable{prog:aD}{w:aR}{A:bi}{E:ad->aj->Prop}{s:aj}
theorem dJ2{Q:Bool->aj->Prop}:∀{us vs:List ad}{d e:List Str}(i:Nat) {fin:Bool},HT.SAre us d->HT.SAre vs e->fin=decide (d.length<e.length)->Q (HT.lexS d e) s->KatLex prog w A true fin Q (us.zip vs) i s
 |_,_,_,_,i,fin,.nil,.nil,hf,h=>by subst hf;exact kat_nil h
 |_,_,_,_,i,fin,.nil,.cons _ _,hf,h=>by
  subst hf;rw[List.zip_nil_left];rw[HT.lexS_nil_cons] at h;exact kat_nil (by simpa using h)
 |_,_,_,_,i,fin,.cons _ _,.nil,hf,h=>by
  subst hf;rw[gy];rw[HT.lexS_cons_nil] at h;exact kat_nil (by simpa using h)
 |_,_,x::d,y::e,i,fin,.cons ⟨t,B⟩ p,.cons ⟨u,j⟩ q,hf,h=>by
  subst B j;rw[fw];rw[HT.lexS_cons] at h;refine kat_cons (iZ x t y u _ _ _ _ ?_);refine kat_go (λz=>kat_yes (dJ2 (i+1) p q (by subst hf;simp) (by rw[if_pos (by simpa using z)] at h;exact h))) λz=>kat_no ?_
  rw[if_neg (by simpa using z)] at h
  cases i with
  |zero=>exact oneLt_str h
  |succ i =>
   show aH _ _ (oneLt' false _ _) _ _ _;exact kat_one _ _ (ku (show PySem.W.BoolBack Q (.bool (HT.ltS x y)) s from h))
theorem cJa{x y:ad}{d e:List Str}{Q:Bool->aj->Prop}(hx:TS s.heap x d)(hy:TS s.heap y e)(h:Q (HT.lexS d e) s):aH (aF prog w) A (keyLt' (tuples' true) x y) Q E s:=by
 obtain⟨b,items,rfl,⟨o,G,_,n,hd⟩,p⟩:=hx;obtain⟨O,i,rfl,⟨J,j,_,L,hd2⟩,p2⟩:=hy;refine kat_lt G hd j hd2 (dJ2 0 p p2 ?_ h);have D:=p.len;have B:=p2.len;simp only[be] at D B;rw[D,B]
theorem cZy{x y:ad}{d e:List Str}{Q:Bool->aj->Prop}(hu:A.units<cQ)(hx:TS s.heap x d)(hy:TS s.heap y e)(h:Q (HT.lexS d e) s):aH (aF prog w) A (keyLt' general' x y) Q E s:=by
 obtain⟨b,items,rfl,t1,p⟩:=hx;obtain⟨j,i,rfl,t2,p2⟩:=hy;show aH _ _ (oneLt' false _ _) _ _ _;exact kat_one _ _ (HT.lt_tupStrs t1 t2 p p2 hu (show PySem.W.BoolBack Q (.bool (HT.lexS d e)) s from h))
theorem fZ2{x y:ad}{d e:List Str}{Q:Bool->aj->Prop}(hu:A.units<cQ)(hx:TS s.heap x d)(hy:TS s.heap y e)(h:Q (HT.lexS d e) s):aH (aF prog w) A (keyLt' oneType' x y) Q E s:=by
 obtain⟨b,items,rfl,t1,p⟩:=hx;obtain⟨Y,i,rfl,t2,p2⟩:=hy;rw[keyLt'_oneType,oneLt'_eq];simp only[if_true];obtain⟨⟨cls,dd,data,sl⟩,G,L,n,hd⟩:=id t1;obtain⟨⟨O,J,data2,B⟩,D,j,U,hd2⟩:=id t2;simp only at L hd j hd2;subst L hd j hd2;refine aa (wpAny_cRoomFor hu ?_);refine aa (wpAny_callSpecialIfBound?_slot ⟨_,G,rfl⟩ gZ (call_meets gZ ⟨_,G,rfl⟩ jY (jH _ _) (HT.tuple_lt_strs b Y items i n U dd J sl B d e p p2) ⟨G,D,?_⟩));exact cS h
theorem bXo:∀{vs:List ad}{ds:List (List Str)}{Q:List (Option ad)->aj->Prop},a9 (TS s.heap) vs ds->(∀fs:List (Option ad),a9 (λf d=>match f with|none=>d=[]|some v=>∃x r t,d=x::r/\v=.str x t) fs ds->Q fs s)->aH (aF prog w) A (vs.mapM firstOfTuple') Q E s
 |_,_,_,.nil,h=>by rw[List.mapM_nil];exact af (h [] .nil)
 |_,_,Q,.cons p q,h=>by
  obtain⟨b,items,rfl,⟨o,i,B,n,hd⟩,sa⟩:=p;rw[List.mapM_cons];refine aa ?_;rw[kas_first_eq];refine aa (Looks.here (show Looks (aF prog w) s.heap (typeOf (.ref b)) o.cls from(Looks.ld i).andThen .now) ?_)
  rw[B,if_neg (by first|decide|simp)]
  refine aa (listItems_at i hd (af ?_));refine aa (bXo q λfs pf=>af (h _ (.cons ?_ pf)));obtain⟨items⟩:=items;have sa:HT.SAre items _:=sa;have e:(Array.mk items)[0]?=items[0]?:=by simp
  rw[e];cases sa with
  |nil=>rfl
  |cons z _=>obtain⟨t,j⟩:=z;exact⟨_,_,t,rfl,j⟩
theorem eZ8{vs:List ad}{ds:List (List Str)}{Q:fg->aj->Prop}(p:a9 (TS s.heap) vs ds)(hne:vs≠[])(h:∀κ,κ=tuples' true\/κ=general'\/κ=oneType'->Q κ s):aH (aF prog w) A (keyKind' vs.toArray) Q E s:=by
 rw[kat_kind_eq,jj,map_eq_pure_bind];refine aa (aa (bXo p λfs pf=>af ?_))
 by_cases i:(fs.toArray.all λx=>x.isSome)=true
 ·rw[if_pos i];refine aa (db ?_);rw[oneTypeOnly'_eq];have G:∀v∈(fs.toArray.filterMap id).toList,∃x t,v=.str x t:=λv G=>by
   simp only[Array.toList_filterMap,ft,id] at G;obtain⟨f,hf,rfl⟩:=G
   have:∀{fs:List (Option ad)}{ds:List (List Str)},a9 (λf d=>match f with|none=>d=[]|some v=>∃x r t,d=x::r/\v=.str x t) fs ds->some v∈fs->∃x t,v=.str x t:=by
    intro fs ds pf
    induction pf with
    |nil=>intro hm;cases hm
    |cons z _ J =>
     intro hm;rcases aA.mp hm with e|hm
     ·subst e;obtain⟨x,r,t,_,e⟩:=z;exact⟨x,t,e⟩
     ·exact J hm
   exact this pf hf
  have j:(fs.toArray.filterMap id).toList≠[]:=by
   have O:fs.length=vs.length:=by have:=cq p;have:=cq pf;lia
   cases fs with
   |nil=>exact absurd (bU (by simpa using O.symm)) hne
   |cons f fs =>
    simp only[List.all_toArray,ik,aL] at i;obtain⟨v,rfl⟩:=b8.mp i.1;simp
  generalize (fs.toArray.filterMap id)=gs at G j;obtain⟨gs⟩:=gs;rw[jj,map_eq_pure_bind];refine aa (aa (aa (kas_mapM (r:=dH "str") gs (λv B Z L=>?_) (af ?_))))
  ·obtain⟨x,t,rfl⟩:=G v B;exact af L
  ·obtain⟨g,gr,rfl⟩:∃g gr,gs=g::gr:=by
    cases gs with
    |nil=>exact absurd rfl j
    |cons g gr=>exact⟨g,gr,rfl⟩
   have h0:(List.map (λ_=>dH "str") (g::gr)).toArray[0]?=some (dH "str"):=by simp
   have D:((List.map (λ_=>dH "str") (g::gr)).toArray.all λx=>x==dH "str")=true:=by
    simp only[List.all_toArray,iI,bB];intro _ _;simp
   rw[h0];simp only[D,if_true];exact af (af (h _ (.inl rfl)))
 ·rw[if_neg i]
  by_cases h1:((fs.toArray[0]?.bind id).isSome)=true
  ·rw[if_pos h1];exact af (h _ (.inr (.inl rfl)))
  ·rw[if_neg h1,oneTypeOnly'_eq,jj,map_eq_pure_bind];refine aa (aa (aa (kas_mapM (r:=dH "tuple") vs (λv B Z L=>?_) (af ?_))))
   ·have:∀{vs:List ad}{ds:List (List Str)},a9 (TS s.heap) vs ds->v∈vs->∃d,TS s.heap v d:=by
     intro vs ds pp
     induction pp with
     |nil=>intro hm;cases hm
     |cons z _ J =>
      intro hm;rcases aA.mp hm with e|hm
      ·subst e;exact⟨_,z⟩
      ·exact J hm
    obtain⟨d,b,items,rfl,⟨o,U,Y,_⟩,_⟩:=this p B;refine Looks.here (show Looks (aF prog w) s.heap (typeOf (.ref b)) (.type "tuple") from ?_) L
    rw[<- Y];exact(Looks.ld U).andThen .now
   ·generalize (List.map (λ_=>dH "tuple") vs).toArray=ts;cases ts[0]? with
    |none=>exact af (af (by first|exact h _ (.inr (.inl rfl))|exact h _ (.inr (.inr rfl))))
    |some t =>
     by_cases h2:(ts.all (· ==t))=true
     ·simp only[h2,if_true];exact af (af (h _ (.inr (.inr rfl))))
     ·simp only[h2,if_false];exact af (af (h _ (.inr (.inl rfl))))
end
end KS
namespace SF
open PySem PyProof.Rows
abbrev SM:=StateT cW Sem
def gal:Bool->aO->Array aO->Nat->Nat->Nat->SM (Option Nat):=sortPriv% PySem.Builtin.gallop
def mLo:Array aO->Array aO->SM (Array aO):=sortPriv% PySem.Builtin.mergeLo
def mHi:Array aO->Array aO->SM (Array aO):=sortPriv% PySem.Builtin.mergeHi
abbrev setG(st:cW)(g:Nat):cW:=i5 (kindOf st) (aU st) (bT st) g (fM st)
def bey(lf:Bool)(key:aO)(arr:Array aO)(b0 i:Nat):SM (Option Bool):=do
 let x <- eK arr (b0+i)
 if lf then lt' x key else return (<- lt' key x).map (!·)
theorem fZ3(lf:Bool)(key:aO)(arr:Array aO)(b0 n at0:Nat):gal lf key arr b0 n at0=(do
 let mut lastofs:=0
 let mut ofs:=1
 let mut lo:=0
 let mut hi:=0
 let some rt <- bey lf key arr b0 at0|return none
 if rt then
  let mx:=n-at0
  for _ in [0:n] do
   if ofs>=mx then break
   let some m1 <- bey lf key arr b0 (at0+ofs)|return none
   if !m1 then break
   lastofs:=ofs
   ofs:=2*ofs+1
  lo:=at0+lastofs+1
  hi:=at0+min ofs mx
 else
  let mx:=at0+1
  for _ in [0:n] do
   if ofs>=mx then break
   let some f1 <- bey lf key arr b0 (at0-ofs)|return none
   if f1 then break
   lastofs:=ofs
   ofs:=2*ofs+1
  lo:=at0+1-min ofs mx
  hi:=at0-lastofs
 for _ in [0:n] do
  if lo>=hi then break
  let m:=lo+(hi-lo)/2
  let some m2 <- bey lf key arr b0 m|return none
  if m2 then lo:=m+1 else hi:=m
 return some hi):=rfl
theorem fZ4(a b:Array aO):mLo a b=(do
 rule "list.sort.merge-lo"
 let total:=a.size+b.size
 let fin (o:Array aO) (ia ib:Nat):=o++a.extract ia a.size++b.extract ib b.size
 let lst (o:Array aO) (ia ib:Nat):=o++b.extract ib b.size++a.extract ia a.size
 let mut out:Array aO:=#[<- eK b 0]
 let mut ia:=0
 let mut ib:=1
 if ib==b.size then return fin out ia ib
 if ia+1==a.size then return lst out ia ib
 let mut minGallop:=gallopOf (<- get)
 for _ in [0:total] do
  let mut acount:=0
  let mut bcount:=0
  for _ in [0:total] do
   let some bw <- lt' (<- eK b ib) (<- eK a ia)|return fin out ia ib
   if bw then
    out:=out.push (<- eK b ib)
    ib:=ib+1
    bcount:=bcount+1
    acount:=0
    if ib==b.size then return fin out ia ib
    if bcount>=minGallop then break
   else
    out:=out.push (<- eK a ia)
    ia:=ia+1
    acount:=acount+1
    bcount:=0
    if ia+1==a.size then return lst out ia ib
    if acount>=minGallop then break
  rule "list.sort.gallop"
  minGallop:=minGallop+1
  for _ in [0:total] do
   if minGallop>1 then minGallop:=minGallop-1
   modify (λs=>setG s minGallop)
   let some k <- gal false (<- eK b ib) a ia (a.size-ia) 0|return fin out ia ib
   acount:=k
   if k>0 then
    out:=out++a.extract ia (ia+k)
    ia:=ia+k
    if ia+1==a.size then return lst out ia ib
    if ia==a.size then return fin out ia ib
   out:=out.push (<- eK b ib)
   ib:=ib+1
   if ib==b.size then return fin out ia ib
   let some k <- gal true (<- eK a ia) b ib (b.size-ib) 0|return fin out ia ib
   bcount:=k
   if k>0 then
    out:=out++b.extract ib (ib+k)
    ib:=ib+k
    if ib==b.size then return fin out ia ib
   out:=out.push (<- eK a ia)
   ia:=ia+1
   if ia+1==a.size then return lst out ia ib
   if acount<7&&bcount<7 then break
  minGallop:=minGallop+1
  modify (λs=>setG s minGallop)
 fo "internal:list.sort.merge-bound"):=rfl
structure Orc(prog:aD)(w:aR)(A:bi)(s:aj)(κ:fg)(P:aO->Prop)(lt:aO->aO->Bool):Prop where
 ask:∀x y (Q:Bool->aj->Prop),P x->P y->Q (lt x y) s->aH (aF prog w) A (keyLt' κ x.1 y.1) Q (λ_ _=>False) s
 as:∀x y,P x->P y->lt x y=true->lt y x=false
 tr:∀x y z,P x->P y->P z->lt y x=false->lt z y=false->lt z x=false
section
variable{prog:aD}{w:aR}{A:bi}{E:ad->aj->Prop}{s:aj}{κ:fg}{P:aO->Prop}{lt:aO->aO->Bool}
theorem cJb(o:Orc prog w A s κ P lt){st:cW}{x y:aO}{Q:Option Bool->cW->Prop}(hk:kindOf st=κ)(hx:P x)(hy:P y)(h:Q (some (lt x y)) st):wpS (aF prog w) A E s (lt' x y) Q st:=by
 rw[lt'_eq];refine aC (iJ ?_);rw[hk];refine aC (i6 (gj (eA (o.ask x y (λb s'=>s'=s/\b=lt x y) hx hy ⟨rfl,rfl⟩) (λb s' d=>?_) λ_ _ i=>i.elim)));obtain⟨rfl,rfl⟩:=d;exact⟨rfl,aE h⟩
theorem aZh{st:cW}{arr:Array aO}{i:Nat}{x:aO}{Q:aO->cW->Prop}(hx:arr[i]?=some x)(h:Q x st):wpS (aF prog w) A E s (eK arr i) Q st:=by
 rw[elem'_eq,hx];exact aE h
def bv(lt:aO->aO->Bool)(lf:Bool)(key x:aO):Bool:=if lf then lt x key else !lt key x
theorem bXp(o:Orc prog w A s κ P lt){st:cW}{lf:Bool}{key x:aO}{arr:Array aO}{b0 i:Nat}{Q:Option Bool->cW->Prop}(hk:kindOf st=κ)(hkey:P key)(hx:arr[b0+i]?=some x)(px:P x)(h:Q (some (bv lt lf key x)) st):wpS (aF prog w) A E s (bey lf key arr b0 i) Q st:=by
 unfold bey;refine aC (aZh hx ?_);cases lf with
 |true=>exact cJb o hk px hkey h
 |false=>exact aC (cJb o hk hkey px (aE h))
theorem dJ3{st:cW}{b:Nat->Bool}{n lo hi:Nat}{body:Nat->Option (Option Nat)×Nat×Nat->SM (ForInStep (Option (Option Nat)×Nat×Nat))}{Q:Option (Option Nat)×Nat×Nat->cW->Prop}
  (hb:∀x lo hi (Q':ForInStep (Option (Option Nat)×Nat×Nat)->cW->Prop),hi<=n->(hi<=lo->Q' (.done (none,lo,hi)) st)->(lo<hi->b (lo+(hi-lo)/2)=true->Q' (.yield (none,lo+(hi-lo)/2+1,hi)) st)->(lo<hi->b (lo+(hi-lo)/2)=false->Q' (.yield (none,lo,lo+(hi-lo)/2)) st)->wpS (aF prog w) A E s (body x (none,lo,hi)) Q' st)
  (mono:∀i j,i<=j->j<n->b j=true->b i=true) (h1:lo<=hi) (h2:hi<=n) (h3:∀i,i<lo->b i=true) (h4:∀i,hi<=i->i<n->b i=false)
  (h:∀k,k<=n->(∀i,i<k->b i=true)->(∀i,k<=i->i<n->b i=false)->Q (none,k,k) st):wpS (aF prog w) A E s (forIn [0:n] ((none,lo,hi):Option (Option Nat)×Nat×Nat) body) Q st:=by
 refine dE (bX (I:=λx c d=>d=st/\∃ lo hi,c=(none,lo,hi)/\lo<=hi/\hi<=n/\hi + x<=lo + n/\(∀ i,i < lo->b i=true)/\∀ i,hi<=i->i < n->b i=false)
  (Q:=λc d=>d=st/\∃lo hi,c=(none,lo,hi)/\hi<=lo/\lo<=hi/\hi<=n/\(∀i,i<lo->b i=true)/\∀i,hi<=i->i<n->b i=false) ?_ ?_ ⟨rfl,lo,hi,rfl,h1,h2,by omega,h3,h4⟩) ?_
 ·rintro x c d _ O ⟨rfl,lo,hi,rfl,a1,a2,L,D,B⟩;refine hb x lo hi _ a2 (λG=>⟨rfl,lo,hi,rfl,G,a1,a2,D,B⟩) (λG e=>⟨rfl,_,_,rfl,by omega,a2,by omega,λi J=>mono i _ (by omega) (by omega) e,B⟩) λG e=>⟨rfl,_,_,rfl,by omega,by omega,by omega,D,λi h1 h2=>?_⟩
  cases e2:b i with
  |false=>rfl
  |true=>rw[mono _ i h1 h2 e2] at e;cases e
 ·rintro c d ⟨rfl,lo,hi,rfl,a1,a2,L,D,B⟩;exact⟨rfl,lo,hi,rfl,by omega,a1,a2,D,B⟩
 ·rintro c d ⟨rfl,lo,hi,rfl,a0,a1,a2,D,B⟩
  have:lo=hi:=by omega
  subst this;exact h lo a2 D B
theorem bZb(o:Orc prog w A s κ P lt){st:cW}{lf:Bool}{key:aO}{arr:Array aO}{b0 n at0:Nat}{f:Nat->aO}{Q:Option Nat->cW->Prop}(hk:kindOf st=κ)(hkey:P key)
  (hf:∀i,i<n->arr[b0+i]?=some (f i)/\P (f i)) (mono:∀i j,i<=j->j<n->bv lt lf key (f j)=true->bv lt lf key (f i)=true) (h0:at0<n)
  (h:∀k,k<=n->(∀i,i<k->bv lt lf key (f i)=true)->(∀i,k<=i->i<n->bv lt lf key (f i)=false)->Q (some k) st):wpS (aF prog w) A E s (gal lf key arr b0 n at0) Q st:=by
 rw[fZ3];dsimp only;have up:∀i j,i<=j->j<n->bv lt lf key (f i)=false->bv lt lf key (f j)=false:=λi j h1 h2 h3=>by
  cases e:bv lt lf key (f j) with
  |false=>rfl
  |true=>rw[mono i j h1 h2 e] at h3;cases h3
 refine aC (bXp o hk hkey (hf at0 h0).1 (hf at0 h0).2 ?_);dsimp only;cases e0:bv lt lf key (f at0) with
 |true =>
  rw[if_pos rfl];refine aC (dE (bX (I:=λx c B=>B=st/\∃ l d,c=(none,l,d)/\l < d/\x + 1<=d/\at0 + l < n/\bv lt lf key (f (at0 + l))=true)
   (Q:=λc B=>B=st/\∃l d,c=(none,l,d)/\l<d/\at0+l<n/\bv lt lf key (f (at0+l))=true/\(n-at0<=d\/(at0+d<n/\bv lt lf key (f (at0+d))=false))) ?_ ?_ ⟨rfl,0,1,rfl,by decide,by decide,h0,e0⟩) ?_)
  ·rintro x c B _ hx ⟨rfl,l,d,rfl,a1,a2,J,G⟩;dsimp only
   by_cases D:d>=n-at0
   ·rw[if_pos D];exact aE ⟨rfl,l,d,rfl,a1,J,G,.inl D⟩
   ·rw[if_neg D];have hm:at0+d<n:=by omega
    refine aC (bXp o hk hkey (hf _ hm).1 (hf _ hm).2 ?_);dsimp only;cases e:bv lt lf key (f (at0+d)) with
    |true=>rw[if_neg (by simp)];exact aE ⟨rfl,d,_,rfl,by omega,by omega,hm,e⟩
    |false=>rw[if_pos (by rfl)];exact aE ⟨rfl,l,d,rfl,a1,J,G,.inr ⟨hm,e⟩⟩
  ·rintro c B ⟨rfl,l,d,rfl,a1,a2,J,G⟩;exact⟨rfl,l,d,rfl,a1,J,G,.inl (by omega)⟩
  ·rintro c B ⟨rfl,l,d,rfl,a1,J,G,a5⟩;have H4:∀i,at0+min d (n-at0)<=i->i<n->bv lt lf key (f i)=false:=λi h1 h2=>by
    rcases a5 with z|⟨z1,L⟩
    ·omega
    ·exact up (at0+d) i (by omega) h2 L
   refine aC (dJ3 (b:=λi=>bv lt lf key (f i)) (n:=n) (lo:=at0+l+1) (hi:=at0+min d (n-at0)) (λx lo hi Q' hn Y U O=>?_) mono (by omega) (by omega) (λi hi=>mono i (at0+l) (by omega) J G) H4 λk k1 k2 Z=>aE (h k k1 k2 Z))
   dsimp only
   by_cases D:lo>=hi
   ·rw[if_pos D];exact aE (Y D)
   ·rw[if_neg D];have hm:lo+(hi-lo)/2<n:=by omega
    refine aC (bXp o hk hkey (hf _ hm).1 (hf _ hm).2 ?_);dsimp only;cases e:bv lt lf key (f (lo+(hi-lo)/2)) with
    |true=>rw[if_pos rfl];exact aE (U (by omega) e)
    |false=>rw[if_neg (by simp)];exact aE (O (by omega) e)
 |false =>
  rw[if_neg (by simp)]
  refine aC (dE (bX (I:=λx c B=>B=st/\∃ l d,c=(none,l,d)/\l < d/\x + 1<=d/\l<=at0/\bv lt lf key (f (at0 - l))=false)
   (Q:=λc B=>B=st/\∃l d,c=(none,l,d)/\l<d/\l<=at0/\bv lt lf key (f (at0-l))=false/\(at0+1<=d\/(d<=at0/\bv lt lf key (f (at0-d))=true))) ?_ ?_ ⟨rfl,0,1,rfl,by decide,by decide,Nat.zero_le _,e0⟩) ?_)
  ·rintro x c B _ hx ⟨rfl,l,d,rfl,a1,a2,J,G⟩;dsimp only
   by_cases D:d>=at0+1
   ·rw[if_pos D];exact aE ⟨rfl,l,d,rfl,a1,J,G,.inl D⟩
   ·rw[if_neg D];have hm:at0-d<n:=by omega
    refine aC (bXp o hk hkey (hf _ hm).1 (hf _ hm).2 ?_);dsimp only;cases e:bv lt lf key (f (at0-d)) with
    |true=>rw[if_pos rfl];exact aE ⟨rfl,l,d,rfl,a1,J,G,.inr ⟨by omega,e⟩⟩
    |false=>rw[if_neg (by simp)];exact aE ⟨rfl,d,_,rfl,by omega,by omega,by omega,e⟩
  ·rintro c B ⟨rfl,l,d,rfl,a1,a2,J,G⟩;exact⟨rfl,l,d,rfl,a1,J,G,.inl (by omega)⟩
  ·rintro c B ⟨rfl,l,d,rfl,a1,J,G,a5⟩;have H3:∀i,i<at0+1-min d (at0+1)->bv lt lf key (f i)=true:=λi hi=>by
    rcases a5 with z|⟨z1,L⟩
    ·omega
    ·exact mono i (at0-d) (by omega) (by omega) L
   refine aC (dJ3 (b:=λi=>bv lt lf key (f i)) (n:=n) (lo:=at0+1-min d (at0+1)) (hi:=at0-l) (λx lo hi Q' hn Y U O=>?_) mono (by omega) (by omega) H3 (λi h1 h2=>up (at0-l) i h1 h2 G) λk k1 k2 Z=>aE (h k k1 k2 Z))
   dsimp only
   by_cases D:lo>=hi
   ·rw[if_pos D];exact aE (Y D)
   ·rw[if_neg D];have hm:lo+(hi-lo)/2<n:=by omega
    refine aC (bXp o hk hkey (hf _ hm).1 (hf _ hm).2 ?_);dsimp only;cases e:bv lt lf key (f (lo+(hi-lo)/2)) with
    |true=>rw[if_pos rfl];exact aE (U (by omega) e)
    |false=>rw[if_neg (by simp)];exact aE (O (by omega) e)
end
def Sd{α:Type}(lt:α->α->Bool)(l:List α):Prop:=l.Pairwise λx y=>lt y x=false
structure Iv{α:Type}(lt:α->α->Bool)(T out rest:List α):Prop where
 perm:(out++rest).Perm T
 sd:Sd lt out
 lo:∀x∈out,∀y∈rest,lt y x=false
section
variable{α:Type}{lt:α->α->Bool}{T out rest:List α}
theorem Iv.step(h:Iv lt T out rest){xs rest':List α}(hp:rest.Perm (xs++rest'))(hs:Sd lt xs)(hl:∀x∈xs,∀y∈rest',lt y x=false):Iv lt T (out++xs) rest':=by
 refine⟨?_,bA.mpr ⟨h.sd,hs,λx i y d=>h.lo x i y (hp.mem_iff.mpr (b7 _ d))⟩,λx i y d=>?_⟩
 ·rw[a6];exact(dX out hp.symm).trans h.perm
 ·rcases aJ.mp i with z|z
  ·exact h.lo x z y (hp.mem_iff.mpr (bm _ d))
  ·exact hl x z y d
theorem Iv.done(h:Iv lt T out rest)(hs:Sd lt rest):Sd lt (out++rest)/\(out++rest).Perm T:=⟨bA.mpr ⟨h.sd,hs,h.lo⟩,h.perm⟩
theorem Iv.perm'(h:Iv lt T out rest){rest':List α}(hp:rest.Perm rest'):Iv lt T out rest':=⟨(dX out hp.symm).trans h.perm,h.sd,λx i y d=>h.lo x i y (hp.mem_iff.mpr d)⟩
theorem Iv.size(h:Iv lt T out rest):out.length+rest.length=T.length:=by rw[<- ar];exact h.perm.length_eq
theorem bJn{l:List α}{i:Nat}{x:α}(h:l[i]?=some x):l.drop i=x::l.drop (i+1):=by
 have hi:=(ay.mp h).1;rw[da hi]
 congr 1
 exact(ay.mp h).2
theorem Sd.drop{l:List α}(h:Sd lt l)(i:Nat):Sd lt (l.drop i):=h.sublist (ji _ _)
theorem Sd.at{l:List α}(h:Sd lt l){i j:Nat}{x y:α}(hij:i<j)(hx:l[i]?=some x)(hy:l[j]?=some y):lt y x=false:=by
 obtain⟨h1,B⟩:=ay.mp hx;obtain⟨h2,d⟩:=ay.mp hy
 have:=bZ.mp h i j h1 h2 hij
 rw[B,d] at this;exact this
theorem aQp{l:List α}{i:Nat}{y:α}(h:y∈l.drop i):∃j,i<=j/\l[j]?=some y:=by
 obtain⟨k,d,e⟩:=bn h;rw[gO] at e;rw[bf] at d;exact⟨i+k,by omega,by rw[ag (by omega),e]⟩
end
section
variable{prog:aD}{w:aR}{A:bi}{s:aj}{κ:fg}{P:aO->Prop}{lt:aO->aO->Bool}{T out la lb:List aO}{ia ib:Nat}{x y:aO}
theorem bXq(o:Orc prog w A s κ P lt){l:List aO}(hP:∀z∈l,P z)(hs:Sd lt l){i:Nat}{z:aO}(hz:P z){y:aO}(hy:l[i]?=some y)(h:lt y z=false):∀u∈l.drop i,lt u z=false:=λu B=>by
 obtain⟨j,D,e⟩:=aQp B;rcases Nat.eq_or_lt_of_le D with rfl|d
 ·rw[hy] at e;cases e;exact h
 ·exact o.tr z y u hz (hP y (ak hy)) (hP u (ak e)) h (hs.at d hy e)
theorem Iv.pushB(h:Iv lt T out (la.drop ia++lb.drop ib))(sb:Sd lt lb)(hy:lb[ib]?=some y)(hl:∀u∈la.drop ia,lt u y=false):Iv lt T (out++[y]) (la.drop ia++lb.drop (ib+1)):=by
 refine h.step ?_ (bP _ _) λx d u i=>?_
 ·rw[bJn hy];exact eH
 ·rw[aG.mp d];rcases aJ.mp i with z|z
  ·exact hl u z
  ·obtain⟨j,B,e⟩:=aQp z;exact sb.at (by omega) hy e
theorem Iv.pushA(h:Iv lt T out (la.drop ia++lb.drop ib))(sa:Sd lt la)(hx:la[ia]?=some x)(hl:∀u∈lb.drop ib,lt u x=false):Iv lt T (out++[x]) (la.drop (ia+1)++lb.drop ib):=by
 refine h.step ?_ (bP _ _) λz d u i=>?_
 ·rw[bJn hx];exact dM _
 ·rw[aG.mp d];rcases aJ.mp i with z|z
  ·obtain⟨j,B,e⟩:=aQp z;exact sa.at (by omega) hx e
  ·exact hl u z
theorem Iv.blockA(h:Iv lt T out (la.drop ia++lb.drop ib))(sa:Sd lt la)(k:Nat)(hl:∀z∈(la.drop ia).take k,∀u∈lb.drop ib,lt u z=false):Iv lt T (out++(la.drop ia).take k) (la.drop (ia+k)++lb.drop ib):=by
 have e:la.drop ia=(la.drop ia).take k++la.drop (ia+k):=by rw[<- List.drop_drop];exact(bQ k _).symm
 have sd:=sa.drop ia;rw[e] at sd;obtain⟨s1,_,s3⟩:=bA.mp sd;refine h.step ?_ s1 λz d u i=>?_
 ·rw[<- a6,<- e]
 ·rcases aJ.mp i with v|v
  ·exact s3 z d u v
  ·exact hl z d u v
theorem Iv.blockB(h:Iv lt T out (la.drop ia++lb.drop ib))(sb:Sd lt lb)(k:Nat)(hl:∀z∈(lb.drop ib).take k,∀u∈la.drop ia,lt u z=false):Iv lt T (out++(lb.drop ib).take k) (la.drop ia++lb.drop (ib+k)):=by
 have e:lb.drop ib=(lb.drop ib).take k++lb.drop (ib+k):=by rw[<- List.drop_drop];exact(bQ k _).symm
 have sd:=sb.drop ib;rw[e] at sd;obtain⟨s1,_,s3⟩:=bA.mp sd;refine h.step ?_ s1 λz d u i=>?_
 ·have j:la.drop ia++lb.drop ib=la.drop ia++((lb.drop ib).take k++lb.drop (ib+k)):=by rw[<- e]
  rw[j,<- a6,<- a6];exact eE _ dY
 ·rcases aJ.mp i with v|v
  ·exact hl z d u v
  ·exact s3 z d u v
theorem aX4{l:List aO}{i k:Nat}{z:aO}(h:z∈(l.drop i).take k):∃j,j<k/\l[i+j]?=some z:=by
 obtain⟨j,d,e⟩:=bn h;rw[aK,bf] at d;rw[gN,gO] at e;exact⟨j,by omega,by rw[ag (by omega),e]⟩
end
theorem aZk(a:Array aO)(i j:Nat):(a.extract i j).toList=(a.toList.drop i).take (j-i):=by simp
theorem bJo(a:Array aO)(i:Nat):(a.extract i a.size).toList=a.toList.drop i:=by
 rw[aZk];exact bI (by rw[bf];simp)
end SF
theorem hd{g:Prop}(h:∀G:Prop,(g->G)->G):g:=h g id
namespace SF
open PySem PyProof.Rows
section
variable{prog:aD}{w:aR}{A:bi}{E:ad->aj->Prop}{s:aj}{κ:fg}{P:aO->Prop}{lt:aO->aO->Bool}
theorem aQg{a:Array aO}{i:Nat}(h:i<a.size):∃x,a[i]?=some x/\a.toList[i]?=some x:=⟨a[i],by simp[h],by simp[h]⟩
theorem aZ3{σ α:Type}{M:Model}{c:Prop}{di:Decidable c}{X Y:StateT σ Sem α}{Q:α->σ->Prop}{st:σ}(hc:c)(h:wpS M A E s X Q st):wpS M A E s (@ite _ c di X Y) Q st:=by rw[if_pos hc];exact h
theorem aZ4{σ α:Type}{M:Model}{c:Prop}{di:Decidable c}{X Y:StateT σ Sem α}{Q:α->σ->Prop}{st:σ}(hc:¬ c)(h:wpS M A E s Y Q st):wpS M A E s (@ite _ c di X Y) Q st:=by rw[if_neg hc];exact h
theorem dJ4{σ α:Type}{M:Model}{c:Nat->Prop}{di:∀n,Decidable (c n)}{X Y:Nat->StateT σ Sem α}{Q:α->σ->Prop}{st:σ}(e:∀n,X n=Y (n-1))(h:∀m,wpS M A E s (Y m) Q st)(n:Nat):wpS M A E s (@ite _ (c n) (di n) (X n) (Y n)) Q st:=by
 split
 ·rw[e];exact h _
 ·exact h _
theorem fZ5(o:Orc prog w A s κ P lt){st:cW}{a b:Array aO}{Q:Array aO->cW->Prop}(hk:kindOf st=κ)(pa:∀x∈a.toList,P x)(pb:∀y∈b.toList,P y)(sa:Sd lt a.toList)(sb:Sd lt b.toList)(na:1<=a.size)(nb:1<=b.size)
  (hfst:∀y,b.toList[0]?=some y->∀x∈a.toList,lt x y=false) (hlst:∀z,a.toList[a.size-1]?=some z->∀y∈b.toList,lt z y=false)
  (h:∀out g,Sd lt out.toList->out.toList.Perm (a.toList++b.toList)->Q out (setG st g)):wpS (aF prog w) A E s (mLo a b) Q st:=by
 have sz:(a.toList++b.toList).length=a.size+b.size:=by simp
 have finA:∀(out:Array aO) ia ib g,ib=b.size->Iv lt (a.toList++b.toList) out.toList (a.toList.drop ia++b.toList.drop ib)->Q (out++a.extract ia a.size++b.extract ib b.size) (setG st g):=λout ia ib g e iv=>by
  have e0:b.toList.drop ib=[]:=bL (by simp[e])
  rw[e0,bD] at iv
  have:=iv.done (sa.drop ia)
  refine h _ g ?_ ?_ <;> simp only[bM,bJo,e0,bD]
  ·exact this.1
  ·exact this.2
 have finB:∀(out:Array aO) ia ib g,ia=a.size->Iv lt (a.toList++b.toList) out.toList (a.toList.drop ia++b.toList.drop ib)->Q (out++a.extract ia a.size++b.extract ib b.size) (setG st g):=λout ia ib g e iv=>by
  have e0:a.toList.drop ia=[]:=bL (by simp[e])
  rw[e0,bN] at iv
  have:=iv.done (sb.drop ib)
  refine h _ g ?_ ?_ <;> simp only[bM,bJo,e0,bD]
  ·exact this.1
  ·exact this.2
 have finL:∀(out:Array aO) ia ib g,ia+1=a.size->Iv lt (a.toList++b.toList) out.toList (a.toList.drop ia++b.toList.drop ib)->Q (out++b.extract ib b.size++a.extract ia a.size) (setG st g):=λout ia ib g e iv=>by
  obtain⟨z,hz,G⟩:=aQg (a:=a) (i:=ia) (by lia)
  have e0:a.toList.drop ia=[z]:=by rw[bJn G,bL (by simp;lia)]
  have Z:=iv.perm' dY;have hz2:a.toList[a.size-1]?=some z:=by rw[<- e];exact G
  have:=Z.done (bA.mpr ⟨sb.drop ib,sa.drop ia,λx hx y hy=>by
   rw[e0] at hy;rw[aG.mp hy];exact hlst z hz2 x (cM hx)⟩)
  refine h _ g ?_ ?_ <;> simp only[bM,bJo,a6]
  ·exact this.1
  ·exact this.2
 have t2:∀(O:ForInStep (Option (Array aO)×Array aO×Nat×Nat×Nat×Nat×Nat)->cW->Prop) (out:Array aO) (ia ib mg ac bc g:Nat),(∀r c',Q r (setG st g)->O (.done (some r,c')) (setG st g)) ->
   (∀B d D ac' bc',d+1<a.size->D<b.size->Iv lt (a.toList++b.toList) B.toList (a.toList.drop d++b.toList.drop D)->out.size<=B.size->O (.done (none,B,d,D,mg,ac',bc')) (setG st g)/\O (.yield (none,B,d,D,mg,ac',bc')) (setG st g)) ->
   ia+1<a.size->ib<b.size->Iv lt (a.toList++b.toList) out.toList (a.toList.drop ia++b.toList.drop ib)->(∀x,a.toList[ia]?=some x->∀u∈b.toList.drop ib,lt u x=false) ->
   wpS (aF prog w) A E s (do
    let x <- eK a ia
    if (ia+1+1==a.size)=true then pure (br (some (out.push x++b.extract ib b.size++a.extract (ia+1) a.size),out.push x,ia+1,ib,mg,ac,bc))
    else if (decide (ac<7)&&decide (bc<7))=true then pure (br (none,out.push x,ia+1,ib,mg,ac,bc))
    else pure (bF (none,out.push x,ia+1,ib,mg,ac,bc))) O (setG st g):=by
  intro O out ia ib mg ac bc g hd hg hia hib iv hl;obtain⟨x1,hx1,Y⟩:=aQg (a:=a) (i:=ia) (by lia)
  refine aC (aZh hx1 ?_);have Z:Iv lt (a.toList++b.toList) (out.push x1).toList (a.toList.drop (ia+1)++b.toList.drop ib):=by
   rw[cy];exact iv.pushA sa Y (hl x1 Y)
  have sp:(out.push x1).size=out.size+1:=dQ ..
  by_cases c1:(ia+1+1==a.size)=true
  ·refine aZ3 c1 ?_;exact aE (hd _ _ (finL _ _ _ g (by simpa using c1) Z))
  ·refine aZ4 c1 ?_;have c1':ia+1+1≠a.size:=by simpa using c1
   have:=hg (out.push x1) (ia+1) ib ac bc (by lia) hib Z (by lia)
   by_cases c2:(decide (ac<7)&&decide (bc<7))=true
   ·refine aZ3 c2 ?_;exact aE this.1
   ·refine aZ4 c2 ?_;exact aE this.2
 have t1:∀(O:ForInStep (Option (Array aO)×Array aO×Nat×Nat×Nat×Nat×Nat)->cW->Prop) (out:Array aO) (ia ib mg ac bc g:Nat),(∀r c',Q r (setG st g)->O (.done (some r,c')) (setG st g)) ->
   (∀B d D ac' bc',d+1<a.size->D<b.size->Iv lt (a.toList++b.toList) B.toList (a.toList.drop d++b.toList.drop D)->out.size<=B.size->O (.done (none,B,d,D,mg,ac',bc')) (setG st g)/\O (.yield (none,B,d,D,mg,ac',bc')) (setG st g)) ->
   ia+1<a.size->ib<b.size->Iv lt (a.toList++b.toList) out.toList (a.toList.drop ia++b.toList.drop ib)->(∀y,b.toList[ib]?=some y->∀u∈a.toList.drop ia,lt u y=false) ->
   wpS (aF prog w) A E s (do
    let y <- eK b ib
    if (ib+1==b.size)=true then pure (br (some (out.push y++a.extract ia a.size++b.extract (ib+1) b.size),out.push y,ia,ib+1,mg,ac,bc))
    else do
     let x <- eK a ia
     let z <- gal true x b (ib+1) (b.size-(ib+1)) 0
     match z with
     |some k1 =>
      if k1>0 then
       if (ib+1+k1==b.size)=true then pure (br (some (out.push y++b.extract (ib+1) (ib+1+k1)++a.extract ia a.size++b.extract (ib+1+k1) b.size),out.push y++b.extract (ib+1) (ib+1+k1),ia,ib+1+k1,mg,ac,k1))
       else do
        let x <- eK a ia
        if (ia+1+1==a.size)=true then pure (br (some ((out.push y++b.extract (ib+1) (ib+1+k1)).push x++b.extract (ib+1+k1) b.size++a.extract (ia+1) a.size),(out.push y++b.extract (ib+1) (ib+1+k1)).push x,ia+1,ib+1+k1,mg,ac,k1))
        else if (decide (ac<7)&&decide (k1<7))=true then pure (br (none,(out.push y++b.extract (ib+1) (ib+1+k1)).push x,ia+1,ib+1+k1,mg,ac,k1))
        else pure (bF (none,(out.push y++b.extract (ib+1) (ib+1+k1)).push x,ia+1,ib+1+k1,mg,ac,k1))
      else do
       let x <- eK a ia
       if (ia+1+1==a.size)=true then pure (br (some ((out.push y).push x++b.extract (ib+1) b.size++a.extract (ia+1) a.size),(out.push y).push x,ia+1,ib+1,mg,ac,k1))
       else if (decide (ac<7)&&decide (k1<7))=true then pure (br (none,(out.push y).push x,ia+1,ib+1,mg,ac,k1))
       else pure (bF (none,(out.push y).push x,ia+1,ib+1,mg,ac,k1))
     |_=>pure (br (some (out.push y++a.extract ia a.size++b.extract (ib+1) b.size),out.push y,ia,ib+1,mg,ac,bc))) O (setG st g):=by
  intro O out ia ib mg ac bc g hd hg hia hib iv hl;obtain⟨y1,hy1,U⟩:=aQg (a:=b) (i:=ib) hib;obtain⟨x1,hx1,Y⟩:=aQg (a:=a) (i:=ia) (by lia)
  have px1:=pa x1 (ak Y);refine aC (aZh hy1 ?_);have Z:Iv lt (a.toList++b.toList) (out.push y1).toList (a.toList.drop ia++b.toList.drop (ib+1)):=by
   rw[cy];exact iv.pushB sb U (hl y1 U)
  have sp:(out.push y1).size=out.size+1:=dQ ..
  by_cases c1:(ib+1==b.size)=true
  ·refine aZ3 c1 ?_;exact aE (hd _ _ (finA _ _ _ g (by simpa using c1) Z))
  refine aZ4 c1 ?_;have c1':ib+1≠b.size:=by simpa using c1
  refine aC (aZh hx1 (aC (bZb o (f:=λi=>b.toList.getD (ib+1+i) (.none,.none)) hk px1 (λi hi=>?_) (λi j hij hj hb=>?_) (by lia) λk k1 k2 k3=>?_)))
  ·obtain⟨z,hz,G⟩:=aQg (a:=b) (i:=ib+1+i) (by lia)
   rw[ai,G];exact⟨hz,pb z (ak G)⟩
  ·obtain⟨z,hz,G⟩:=aQg (a:=b) (i:=ib+1+i) (by lia)
   obtain⟨z',hz',hzl'⟩:=aQg (a:=b) (i:=ib+1+j) (by lia)
   rw[ai,hzl'] at hb;rw[ai,G];have hb':lt z' x1=true:=hb;show lt z x1=true;cases e:lt z x1 with
   |true=>rfl
   |false =>
    exfalso;have pz:=pb z (ak G);have pz':=pb z' (ak hzl');rcases Nat.eq_or_lt_of_le hij with rfl|hlt
    ·rw[G] at hzl';cases hzl';rw[e] at hb';cases hb'
    ·have:=o.tr x1 z z' px1 pz pz' e (sb.at (by lia) G hzl')
     rw[hb'] at this;cases this
  have behind:∀j y,ib+1+k<=j->b.toList[j]?=some y->lt y x1=false:=λj y hj hy=>by
   have hjb:j<b.size:=by have:=(ay.mp hy).1;simpa using this
   have:=k3 (j-(ib+1)) (by lia) (by lia)
   rw[ai,show ib+1+(j-(ib+1))=j by lia,hy] at this
   exact this
  dsimp only
  by_cases ck:k>0
  ·refine aZ3 ck ?_;have iv3:Iv lt (a.toList++b.toList) (out.push y1++b.extract (ib+1) (ib+1+k)).toList (a.toList.drop ia++b.toList.drop (ib+1+k)):=by
    rw[bM,aZk,show ib+1+k-(ib+1)=k by lia]
    refine Z.blockB sb k λz hz u hu=>?_;obtain⟨j,hj,G⟩:=aX4 hz;have pz:=pb z (ak G);have hb:=k2 j hj;rw[ai,G] at hb;exact bXq o pa sa pz Y (o.as _ _ pz px1 hb) u hu
   have sz3:out.size<=(out.push y1++b.extract (ib+1) (ib+1+k)).size:=by rw[dq];lia
   by_cases c3:(ib+1+k==b.size)=true
   ·refine aZ3 c3 ?_;exact aE (hd _ _ (finA _ _ _ g (by simpa using c3) iv3))
   ·refine aZ4 c3 ?_;have c3':ib+1+k≠b.size:=by simpa using c3
    refine t2 O _ ia (ib+1+k) mg ac k g hd (λo' i1 i2 a1 b1 q1 q2 q3 q4=>hg o' i1 i2 a1 b1 q1 q2 q3 (by lia)) hia (by lia) iv3 λx hx u hu=>?_
    rw[Y] at hx;cases hx;obtain⟨j,hj,e⟩:=aQp hu;exact behind j u hj e
  ·refine aZ4 ck ?_;have k0:k=0:=by lia
   refine t2 O _ ia (ib+1) mg ac k g hd (λo' i1 i2 a1 b1 q1 q2 q3 q4=>hg o' i1 i2 a1 b1 q1 q2 q3 (by lia)) hia (by lia) Z λx hx u hu=>?_
   rw[Y] at hx;cases hx;obtain⟨j,hj,e⟩:=aQp hu;exact behind j u (by lia) e
 rw[fZ4];refine aC (i6 (db ⟨rfl,?_⟩));dsimp only;obtain⟨y0,hy0,hy0l⟩:=aQg (a:=b) (i:=0) nb;refine aC (aZh hy0 ?_);have iv0:Iv lt (a.toList++b.toList) (#[y0]:Array aO).toList (a.toList.drop 0++b.toList.drop 1):=by
  have i0:Iv lt (a.toList++b.toList) [] (a.toList.drop 0++b.toList.drop 0):=⟨by simp,gS,by simp⟩
  exact i0.pushB sb hy0l λu hu=>hfst y0 hy0l u hu
 have est:st=setG st (gallopOf st):=rfl
 by_cases hb1:(1==b.size)=true
 ·refine aZ3 hb1 ?_;refine aE ?_;rw[est];exact finA _ 0 1 _ (by simpa using hb1) iv0
 refine aZ4 hb1 ?_
 by_cases ha1:(0+1==a.size)=true
 ·refine aZ3 ha1 ?_;refine aE ?_;rw[est];exact finL _ 0 1 _ (by simpa using ha1) iv0
 refine aZ4 ha1 ?_;have hb2:1<b.size:=by
  have:1≠b.size:=by simpa using hb1
  lia
 have ha2:0+1<a.size:=by
  have:0+1≠a.size:=by simpa using ha1
  lia
 refine aC (iJ ?_);refine aC (dE (bX (I:=λx c J=>∃ out ia ib mg g,c=(none,out,ia,ib,mg)/\J=setG st g/\ia + 1 < a.size/\ib < b.size/\Iv lt (a.toList++b.toList) out.toList (a.toList.drop ia++b.toList.drop ib)/\x + 1<=out.size)
  (Q:=λc J=>∃r,c.fst=some r/\Q r J) ?_ ?_ ⟨#[y0],0,1,_,_,rfl,est,ha2,hb2,iv0,by simp⟩) ?_)
 ·intro x c J _ hx zq;refine hd λGq kq=>?_;obtain⟨out,ia,ib,mg,g,rfl,rfl,hia,hib,iv,hsz⟩:=zq;refine kq ?_;dsimp only;refine aC (dE (bX (I:=λy c J=>∃ B d D ac bc,c=(none,B,d,D,ac,bc)/\J=setG st g/\d + 1 < a.size/\D < b.size/\Iv lt (a.toList++b.toList) B.toList (a.toList.drop d++b.toList.drop D)/\out.size + y<=B.size)
   (Q:=λc J=>J=setG st g/\((∃r,c.fst=some r/\Q r J)\/∃B d D ac bc,c=(none,B,d,D,ac,bc)/\d+1<a.size/\D<b.size/\Iv lt (a.toList++b.toList) B.toList (a.toList.drop d++b.toList.drop D)/\out.size+1<=B.size)) ?_ ?_ ⟨out,ia,ib,0,0,rfl,rfl,hia,hib,iv,Nat.le_refl _⟩) ?_)
  ·intro y c J _ hy zq;refine hd λGq kq=>?_;obtain⟨B,d,D,ac,bc,rfl,rfl,hia',L,iv',hsz'⟩:=zq;refine kq ?_;obtain⟨x1,hx1,Y⟩:=aQg (a:=a) (i:=d) (by lia)
   obtain⟨y1,hy1,U⟩:=aQg (a:=b) (i:=D) L;have px1:=pa x1 (ak Y);have py1:=pb y1 (ak U);dsimp only;refine aC (aZh hy1 (aC (aZh hx1 (aC (cJb o hk py1 px1 ?_)))));dsimp only;cases e:lt y1 x1 with
   |true =>
    refine aZ3 rfl ?_;refine aC (aZh hy1 ?_);have Z:Iv lt (a.toList++b.toList) (B.push y1).toList (a.toList.drop d++b.toList.drop (D+1)):=by
     rw[cy];exact iv'.pushB sb U (bXq o pa sa py1 Y (o.as _ _ py1 px1 e))
    have sp:(B.push y1).size=B.size+1:=dQ ..
    by_cases c1:(D+1==b.size)=true
    ·refine aZ3 c1 ?_;exact aE ⟨rfl,.inl ⟨_,rfl,finA _ _ _ g (by simpa using c1) Z⟩⟩
    ·refine aZ4 c1 ?_;have c1':D+1≠b.size:=by simpa using c1
     by_cases c2:bc+1>=mg
     ·refine aZ3 c2 ?_;exact aE ⟨rfl,.inr ⟨_,_,_,_,_,rfl,hia',by lia,Z,by lia⟩⟩
     ·refine aZ4 c2 ?_;exact aE ⟨_,_,_,_,_,rfl,rfl,hia',by lia,Z,by lia⟩
   |false =>
    refine aZ4 (by simp) ?_
    refine aC (aZh hx1 ?_);have Z:Iv lt (a.toList++b.toList) (B.push x1).toList (a.toList.drop (d+1)++b.toList.drop D):=by
     rw[cy];exact iv'.pushA sa Y (bXq o pb sb px1 U e)
    have sp:(B.push x1).size=B.size+1:=dQ ..
    by_cases c1:(d+1+1==a.size)=true
    ·refine aZ3 c1 ?_;exact aE ⟨rfl,.inl ⟨_,rfl,finL _ _ _ g (by simpa using c1) Z⟩⟩
    ·refine aZ4 c1 ?_;have c1':d+1+1≠a.size:=by simpa using c1
     by_cases c2:ac+1>=mg
     ·refine aZ3 c2 ?_;exact aE ⟨rfl,.inr ⟨_,_,_,_,_,rfl,by lia,L,Z,by lia⟩⟩
     ·refine aZ4 c2 ?_;exact aE ⟨_,_,_,_,_,rfl,rfl,by lia,L,Z,by lia⟩
  ·intro c J zq;refine hd λGq kq=>?_;obtain⟨B,d,D,ac,bc,rfl,rfl,hia',L,iv',hsz'⟩:=zq;refine kq ?_;exact⟨rfl,.inr ⟨_,_,_,_,_,rfl,hia',L,iv',by lia⟩⟩
  ·rintro c J ⟨rfl,⟨r,hr,q⟩|⟨out1,ia1,ib1,ac1,bc1,rfl,hia1,hib1,iv1,hsz1⟩⟩
   ·obtain⟨c1,c2⟩:=c;dsimp only at hr;subst hr;exact aE ⟨r,rfl,q⟩
   ·dsimp only;refine aC (i6 (db ⟨rfl,?_⟩));refine aC (dE (bX (I:=λy c J=>∃ B d D mg' ac bc g',c=(none,B,d,D,mg',ac,bc)/\J=setG st g'/\d + 1 < a.size/\D < b.size/\Iv lt (a.toList++b.toList) B.toList (a.toList.drop d++b.toList.drop D)/\out1.size<=B.size)
     (Q:=λc J=>(∃r,c.fst=some r/\Q r J)\/∃B d D mg' ac bc g',c=(none,B,d,D,mg',ac,bc)/\J=setG st g'/\d+1<a.size/\D<b.size/\Iv lt (a.toList++b.toList) B.toList (a.toList.drop d++b.toList.drop D)/\out1.size<=B.size) ?_ ?_ ⟨out1,ia1,ib1,_,ac1,bc1,g,rfl,rfl,hia1,hib1,iv1,Nat.le_refl _⟩) ?_)
    ·intro y c J _ hy zq;refine hd λGq kq=>?_;obtain⟨B,d,D,mg',ac,bc,g',rfl,rfl,hia',L,iv',hsz'⟩:=zq;refine kq ?_;dsimp only;obtain⟨y1,hy1,U⟩:=aQg (a:=b) (i:=D) L;have py1:=pb y1 (ak U);have fa:∀i,i<a.size-d->a[d+i]?=some (a.toList.getD (d+i) (.none,.none))/\P (a.toList.getD (d+i) (.none,.none)):=λi hi=>by
      obtain⟨z,hz,G⟩:=aQg (a:=a) (i:=d+i) (by lia)
      rw[ai,G];exact⟨hz,pa z (ak G)⟩
     have mono:∀i j,i<=j->j<a.size-d->bv lt false y1 (a.toList.getD (d+j) (.none,.none))=true->bv lt false y1 (a.toList.getD (d+i) (.none,.none))=true:=λi j hij hj hb=>by
      obtain⟨z,hz,G⟩:=aQg (a:=a) (i:=d+i) (by lia)
      obtain⟨z',hz',hzl'⟩:=aQg (a:=a) (i:=d+j) (by lia)
      rw[ai,hzl'] at hb;rw[ai,G];have hb':lt y1 z'=false:=by simpa [bv] using hb
      show(!lt y1 z)=true;rcases Nat.eq_or_lt_of_le hij with rfl|hlt
      ·rw[G] at hzl';cases hzl';rw[hb'];rfl
      ·rw[o.tr z z' y1 (pa z (ak G)) (pa z' (ak hzl')) py1 (sa.at (by lia) G hzl') hb'];rfl
     clear kq
     revert mg'
     refine dJ4 (λ_=>rfl) λm2=>?_;refine aC (cX (aC (aZh hy1 (aC (bZb o (f:=λi=>a.toList.getD (d+i) (.none,.none)) hk py1 fa mono (by lia) λk k1 k2 k3=>?_)))))
     dsimp only;have behind:∀j z,d+k<=j->a.toList[j]?=some z->lt z y1=false:=λj z hj hz=>by
      have hja:j<a.size:=by have:=(ay.mp hz).1;simpa using this
      have:=k3 (j-d) (by lia) (by lia)
      rw[ai,show d+(j-d)=j by lia,hz] at this
      have h1:(!lt y1 z)=false:=this;exact o.as _ _ py1 (pa z (ak hz)) (by simpa using h1)
     by_cases ck:k>0
     ·refine aZ3 ck ?_;have iv3:Iv lt (a.toList++b.toList) (B++a.extract d (d+k)).toList (a.toList.drop (d+k)++b.toList.drop D):=by
       rw[bM,aZk,show d+k-d=k by lia]
       refine iv'.blockA sa k λz hz u hu=>?_;obtain⟨j,hj,G⟩:=aX4 hz;have hb:=k2 j hj;rw[ai,G] at hb;have h1:(!lt y1 z)=true:=hb;exact bXq o pb sb (pa z (ak G)) U (by simpa using h1) u hu
      have sz3:out1.size<=(B++a.extract d (d+k)).size:=by rw[dq];lia
      by_cases c3:(d+k+1==a.size)=true
      ·refine aZ3 c3 ?_;exact aE (.inl ⟨_,rfl,finL _ _ _ _ (by simpa using c3) iv3⟩)
      ·refine aZ4 c3 ?_;have c3':d+k+1≠a.size:=by simpa using c3
       by_cases c4:(d+k==a.size)=true
       ·refine aZ3 c4 ?_;exact aE (.inl ⟨_,rfl,finB _ _ _ _ (by simpa using c4) iv3⟩)
       ·refine aZ4 c4 ?_;have c4':d+k≠a.size:=by simpa using c4
        refine t1 _ _ (d+k) D m2 k bc m2 (λr c' q=>.inl ⟨r,rfl,q⟩) (λo' i1 i2 a1 b1 q1 q2 q3 q4=>⟨.inr ⟨_,_,_,_,_,_,_,rfl,rfl,q1,q2,q3,by lia⟩,⟨_,_,_,_,_,_,_,rfl,rfl,q1,q2,q3,by lia⟩⟩) (by lia) L iv3 λy hy u hu=>?_
        rw[U] at hy;cases hy;obtain⟨j,hj,e⟩:=aQp hu;exact behind j u hj e
     ·refine aZ4 ck ?_;refine t1 _ _ d D m2 k bc m2 (λr c' q=>.inl ⟨r,rfl,q⟩) (λo' i1 i2 a1 b1 q1 q2 q3 q4=>⟨.inr ⟨_,_,_,_,_,_,_,rfl,rfl,q1,q2,q3,by lia⟩,⟨_,_,_,_,_,_,_,rfl,rfl,q1,q2,q3,by lia⟩⟩) hia' L iv' λy hy u hu=>?_
      rw[U] at hy;cases hy;obtain⟨j,hj,e⟩:=aQp hu;exact behind j u (by lia) e
    ·intro c J zq;refine hd λGq kq=>?_;obtain⟨B,d,D,mg',ac,bc,g',rfl,rfl,hia',L,iv',hsz'⟩:=zq;refine kq ?_;exact .inr ⟨_,_,_,_,_,_,_,rfl,rfl,hia',L,iv',hsz'⟩
    ·rintro c J (⟨r,hr,q⟩|⟨B,d,D,mg',ac,bc,g',rfl,rfl,hia',L,iv',hsz'⟩)
     ·obtain⟨c1,c2⟩:=c;dsimp only at hr;subst hr;exact aE ⟨r,rfl,q⟩
     ·dsimp only;exact aC (cX (aE ⟨_,_,_,_,_,rfl,rfl,hia',L,iv',by lia⟩))
 ·intro c J zq;refine hd λGq kq=>?_;obtain⟨out,ia,ib,mg,g,rfl,rfl,hia,hib,iv,hsz⟩:=zq;refine kq ?_;exfalso
  have:=iv.size
  rw[sz,be] at this;lia
 ·rintro c J ⟨r,hr,q⟩;obtain⟨c1,c2⟩:=c;dsimp only at hr;subst hr;exact aE q
end
theorem fZ6(a b:Array aO):mHi a b=(do
 rule "list.sort.merge-hi"
 let total:=a.size+b.size
 let fin (o:Array aO) (na nb:Nat):=a.extract 0 na++b.extract 0 nb++o.reverse
 let fst (o:Array aO) (na nb:Nat):=b.extract 0 nb++a.extract 0 na++o.reverse
 let mut na:=a.size-1
 let mut nb:=b.size
 let mut out:Array aO:=#[<- eK a na]
 if na==0 then return fin out na nb
 if nb==1 then return fst out na nb
 let mut minGallop:=gallopOf (<- get)
 for _ in [0:total] do
  let mut acount:=0
  let mut bcount:=0
  for _ in [0:total] do
   let some aw <- lt' (<- eK b (nb-1)) (<- eK a (na-1))|return fin out na nb
   if aw then
    na:=na-1
    out:=out.push (<- eK a na)
    acount:=acount+1
    bcount:=0
    if na==0 then return fin out na nb
    if acount>=minGallop then break
   else
    nb:=nb-1
    out:=out.push (<- eK b nb)
    bcount:=bcount+1
    acount:=0
    if nb==1 then return fst out na nb
    if bcount>=minGallop then break
  rule "list.sort.gallop"
  minGallop:=minGallop+1
  for _ in [0:total] do
   if minGallop>1 then minGallop:=minGallop-1
   modify (λs=>setG s minGallop)
   let some p <- gal false (<- eK b (nb-1)) a 0 na (na-1)|return fin out na nb
   let k:=na-p
   acount:=k
   if k>0 then
    out:=out++(a.extract p na).reverse
    na:=p
    if na==0 then return fin out na nb
   nb:=nb-1
   out:=out.push (<- eK b nb)
   if nb==1 then return fst out na nb
   let some p <- gal true (<- eK a (na-1)) b 0 nb (nb-1)|return fin out na nb
   let k:=nb-p
   bcount:=k
   if k>0 then
    out:=out++(b.extract p nb).reverse
    nb:=p
    if nb==1 then return fst out na nb
    if nb==0 then return fin out na nb
   na:=na-1
   out:=out.push (<- eK a na)
   if na==0 then return fin out na nb
   if acount<7&&bcount<7 then break
  minGallop:=minGallop+1
  modify (λs=>setG s minGallop)
 fo "internal:list.sort.merge-bound"):=rfl
section
variable{α:Type}{lt:α->α->Bool}{T out rest:List α}
abbrev rl(lt:α->α->Bool):α->α->Bool:=λx y=>lt y x
theorem Iv.doneR(h:Iv (rl lt) T out rest){l:List α}(hp:l.Perm rest)(hs:Sd lt l):Sd lt (l++out.reverse)/\(l++out.reverse).Perm T:=by
 refine⟨bA.mpr ⟨hs,g6.mpr h.sd,λx i y d=>h.lo y (jK.mp d) x (hp.mem_iff.mp i)⟩,?_⟩;exact(List.Perm.append hp (jl out)).trans (dY.trans h.perm)
theorem bJp{l:List α}{i:Nat}{x:α}(h:l[i]?=some x):l.take (i+1)=l.take i++[x]:=by rw[bJ,h];rfl
theorem Sd.take{l:List α}(h:Sd lt l)(i:Nat):Sd lt (l.take i):=h.sublist (gF _ _)
theorem aQt{l:List α}{i:Nat}{y:α}(h:y∈l.take i):∃j,j<i/\l[j]?=some y:=by
 obtain⟨k,d,e⟩:=bn h;rw[aK] at d;rw[gN] at e;exact⟨k,by lia,by rw[ag (by lia),e]⟩
end
section
variable{prog:aD}{w:aR}{A:bi}{s:aj}{κ:fg}{P:aO->Prop}{lt:aO->aO->Bool}{T out la lb:List aO}{na nb:Nat}{x y:aO}
theorem bXr(o:Orc prog w A s κ P lt){l:List aO}(hP:∀z∈l,P z)(hs:Sd lt l){i:Nat}{z:aO}(hz:P z){y:aO}(hy:l[i]?=some y)(h:lt z y=false):∀u∈l.take (i+1),lt z u=false:=λu B=>by
 obtain⟨j,D,e⟩:=aQt B;rcases Nat.eq_or_lt_of_le (Nat.le_of_lt_succ D) with rfl|d
 ·rw[hy] at e;cases e;exact h
 ·exact o.tr u y z (hP u (ak e)) (hP y (ak hy)) hz (hs.at d e hy) h
theorem Iv.popA(h:Iv (rl lt) T out (la.take (na+1)++lb.take nb))(sa:Sd lt la)(hx:la[na]?=some x)(hl:∀u∈lb.take nb,lt x u=false):Iv (rl lt) T (out++[x]) (la.take na++lb.take nb):=by
 refine h.step ?_ (bP _ _) λz d u i=>?_
 ·rw[bJp hx,a6];exact eH
 ·rw[aG.mp d];rcases aJ.mp i with v|v
  ·obtain⟨j,B,e⟩:=aQt v;exact sa.at B e hx
  ·exact hl u v
theorem Iv.popB(h:Iv (rl lt) T out (la.take na++lb.take (nb+1)))(sb:Sd lt lb)(hy:lb[nb]?=some y)(hl:∀u∈la.take na,lt y u=false):Iv (rl lt) T (out++[y]) (la.take na++lb.take nb):=by
 refine h.step ?_ (bP _ _) λz d u i=>?_
 ·rw[bJp hy,<- a6];exact dY
 ·rw[aG.mp d];rcases aJ.mp i with v|v
  ·exact hl u v
  ·obtain⟨j,B,e⟩:=aQt v;exact sb.at B e hy
theorem cJc(l:List aO){p n:Nat}(h:p<=n):l.take n=l.take p++(l.drop p).take (n-p):=by
 have:n=p+(n-p):=by lia
 rw[this,List.take_add];simp
theorem Iv.backA(h:Iv (rl lt) T out (la.take na++lb.take nb))(sa:Sd lt la){p:Nat}(hp:p<=na)(hl:∀z∈(la.drop p).take (na-p),∀u∈lb.take nb,lt z u=false):Iv (rl lt) T (out++((la.drop p).take (na-p)).reverse) (la.take p++lb.take nb):=by
 have e:=cJc la hp;have sd:=sa.take na;rw[e] at sd;obtain⟨_,s2,s3⟩:=bA.mp sd;refine h.step ?_ (g6.mpr s2) λz d u i=>?_
 ·rw[e,a6];refine(List.perm_append_comm_assoc _ _ _).trans ?_;exact eE _ (jl _).symm
 ·have d:=jK.mp d;rcases aJ.mp i with v|v
  ·exact s3 u v z d
  ·exact hl z d u v
theorem Iv.backB(h:Iv (rl lt) T out (la.take na++lb.take nb))(sb:Sd lt lb){p:Nat}(hp:p<=nb)(hl:∀z∈(lb.drop p).take (nb-p),∀u∈la.take na,lt z u=false):Iv (rl lt) T (out++((lb.drop p).take (nb-p)).reverse) (la.take na++lb.take p):=by
 have e:=cJc lb hp;have sd:=sb.take nb;rw[e] at sd;obtain⟨_,s2,s3⟩:=bA.mp sd;refine h.step ?_ (g6.mpr s2) λz d u i=>?_
 ·rw[e,<- a6];refine dY.trans ?_;exact eE _ (jl _).symm
 ·have d:=jK.mp d;rcases aJ.mp i with v|v
  ·exact hl z d u v
  ·exact s3 u v z d
end
theorem dJ5(a:Array aO)(n:Nat):(a.extract 0 n).toList=a.toList.take n:=by rw[aZk];simp
section
variable{prog:aD}{w:aR}{A:bi}{E:ad->aj->Prop}{s:aj}{κ:fg}{P:aO->Prop}{lt:aO->aO->Bool}
theorem fZ7(o:Orc prog w A s κ P lt){st:cW}{a b:Array aO}{Q:Array aO->cW->Prop}(hk:kindOf st=κ)(pa:∀x∈a.toList,P x)(pb:∀y∈b.toList,P y)(sa:Sd lt a.toList)(sb:Sd lt b.toList)(na0:1<=a.size)(nb0:1<=b.size)
  (hfst:∀y,b.toList[0]?=some y->∀x∈a.toList,lt x y=false) (hlst:∀z,a.toList[a.size-1]?=some z->∀y∈b.toList,lt z y=false)
  (h:∀out g,Sd lt out.toList->out.toList.Perm (a.toList++b.toList)->Q out (setG st g)):wpS (aF prog w) A E s (mHi a b) Q st:=by
 have sz:(a.toList++b.toList).length=a.size+b.size:=by simp
 have finG:∀(out:Array aO) na nb g,Sd lt (a.toList.take na++b.toList.take nb)->Iv (rl lt) (a.toList++b.toList) out.toList (a.toList.take na++b.toList.take nb)->Q (a.extract 0 na++b.extract 0 nb++out.reverse) (setG st g):=λout na nb g e iv=>by
  have:=iv.doneR (dM _) e
  refine h _ g ?_ ?_ <;> simp only[bM,fN,dJ5]
  ·exact this.1
  ·exact this.2
 have finF:∀(out:Array aO) na nb g,nb=1->Iv (rl lt) (a.toList++b.toList) out.toList (a.toList.take na++b.toList.take nb)->Q (b.extract 0 nb++a.extract 0 na++out.reverse) (setG st g):=λout na nb g e iv=>by
  obtain⟨y0,hy0,hy0l⟩:=aQg (a:=b) (i:=0) nb0;have e1:b.toList.take nb=[y0]:=by rw[e];exact(bJp (i:=0) hy0l)
  have sd:Sd lt (b.toList.take nb++a.toList.take na):=by
   rw[e1];exact bb.mpr ⟨λu hu=>hfst y0 hy0l u (cz hu),sa.take na⟩
  have:=iv.doneR dY sd
  refine h _ g ?_ ?_ <;> simp only[bM,fN,dJ5]
  ·exact this.1
  ·exact this.2
 have t2:∀(J:ForInStep (Option (Array aO)×Nat×Nat×Array aO×Nat×Nat×Nat)->cW->Prop) (out:Array aO) (na nb mg ac Z g:Nat),(∀r c',Q r (setG st g)->J (.done (some r,c')) (setG st g)) ->
   (∀na' B d ac' bc',1<=na'->(na'<=a.size/\2<=B/\B<=b.size)->Iv (rl lt) (a.toList++b.toList) d.toList (a.toList.take na'++b.toList.take B)->out.size<=d.size->J (.done (none,na',B,d,mg,ac',bc')) (setG st g)/\J (.yield (none,na',B,d,mg,ac',bc')) (setG st g)) ->
   1<=na->na<=a.size->(2<=nb/\nb<=b.size)->Iv (rl lt) (a.toList++b.toList) out.toList (a.toList.take na++b.toList.take nb)->(∀x,a.toList[na-1]?=some x->∀u∈b.toList.take nb,lt x u=false) ->
   wpS (aF prog w) A E s (do
    let x <- eK a (na-1)
    if (na-1==0)=true then pure (br (some (a.extract 0 (na-1)++b.extract 0 nb++((out).push x).reverse),na-1,nb,(out).push x,mg,ac,Z))
    else if (decide (ac<7)&&decide (Z<7))=true then pure (br (none,na-1,nb,(out).push x,mg,ac,Z))
    else pure (bF (none,na-1,nb,(out).push x,mg,ac,Z))) J (setG st g):=by
  intro J out na nb mg ac Z g hd hg hna hla hnb iv hl;obtain⟨m,rfl⟩:∃m,na=m+1:=⟨na-1,by lia⟩
  simp only[Nat.add_sub_cancel] at hl ⊢;obtain⟨x1,hx1,O⟩:=aQg (a:=a) (i:=m) (by lia)
  refine aC (aZh hx1 ?_);have Y:Iv (rl lt) (a.toList++b.toList) (out.push x1).toList (a.toList.take m++b.toList.take nb):=by
   rw[cy];exact iv.popA sa O (hl x1 O)
  have sp:(out.push x1).size=out.size+1:=dQ ..
  by_cases c1:(m==0)=true
  ·have m0:m=0:=by simpa using c1
   refine aZ3 c1 ?_;refine aE (hd _ _ (finG _ _ _ g ?_ Y));rw[m0];exact sb.take _
  ·refine aZ4 c1 ?_;have c1':m≠0:=by simpa using c1
   have:=hg m nb (out.push x1) ac Z (by lia) ⟨by lia,hnb⟩ Y (by lia)
   by_cases c2:(decide (ac<7)&&decide (Z<7))=true
   ·refine aZ3 c2 ?_;exact aE this.1
   ·refine aZ4 c2 ?_;exact aE this.2
 have t1:∀(J:ForInStep (Option (Array aO)×Nat×Nat×Array aO×Nat×Nat×Nat)->cW->Prop) (out:Array aO) (na nb mg ac Z g:Nat),(∀r c',Q r (setG st g)->J (.done (some r,c')) (setG st g)) ->
   (∀na' B d ac' bc',1<=na'->(na'<=a.size/\2<=B/\B<=b.size)->Iv (rl lt) (a.toList++b.toList) d.toList (a.toList.take na'++b.toList.take B)->out.size<=d.size->J (.done (none,na',B,d,mg,ac',bc')) (setG st g)/\J (.yield (none,na',B,d,mg,ac',bc')) (setG st g)) ->
   1<=na->na<=a.size->(2<=nb/\nb<=b.size)->Iv (rl lt) (a.toList++b.toList) out.toList (a.toList.take na++b.toList.take nb)->(∀y,b.toList[nb-1]?=some y->∀u∈a.toList.take na,lt y u=false) ->
   wpS (aF prog w) A E s (do
    let y <- eK b (nb-1)
    if (nb-1==1)=true then pure (br (some (b.extract 0 (nb-1)++a.extract 0 na++(out.push y).reverse),na,nb-1,out.push y,mg,ac,Z))
    else do
     let x <- eK a (na-1)
     let z <- gal true x b 0 (nb-1) (nb-1-1)
     match z with
     |some U =>
      if nb-1-U>0 then
       if (U==1)=true then pure (br (some (b.extract 0 U++a.extract 0 na++(out.push y++(b.extract U (nb-1)).reverse).reverse),na,U,out.push y++(b.extract U (nb-1)).reverse,mg,ac,nb-1-U))
       else if (U==0)=true then pure (br (some (a.extract 0 na++b.extract 0 U++(out.push y++(b.extract U (nb-1)).reverse).reverse),na,U,out.push y++(b.extract U (nb-1)).reverse,mg,ac,nb-1-U))
       else do
        let x <- eK a (na-1)
        if (na-1==0)=true then pure (br (some (a.extract 0 (na-1)++b.extract 0 U++((out.push y++(b.extract U (nb-1)).reverse).push x).reverse),na-1,U,(out.push y++(b.extract U (nb-1)).reverse).push x,mg,ac,(nb-1-U)))
        else if (decide (ac<7)&&decide ((nb-1-U)<7))=true then pure (br (none,na-1,U,(out.push y++(b.extract U (nb-1)).reverse).push x,mg,ac,(nb-1-U)))
        else pure (bF (none,na-1,U,(out.push y++(b.extract U (nb-1)).reverse).push x,mg,ac,(nb-1-U)))
      else do
       let x <- eK a (na-1)
       if (na-1==0)=true then pure (br (some (a.extract 0 (na-1)++b.extract 0 (nb-1)++((out.push y).push x).reverse),na-1,(nb-1),(out.push y).push x,mg,ac,(nb-1-U)))
       else if (decide (ac<7)&&decide ((nb-1-U)<7))=true then pure (br (none,na-1,(nb-1),(out.push y).push x,mg,ac,(nb-1-U)))
       else pure (bF (none,na-1,(nb-1),(out.push y).push x,mg,ac,(nb-1-U)))
     |_=>pure (br (some (a.extract 0 na++b.extract 0 (nb-1)++(out.push y).reverse),na,nb-1,out.push y,mg,ac,Z))) J (setG st g):=by
  intro J out na nb mg ac Z g hd hg hna hla hnb iv hl;obtain⟨m,rfl⟩:∃m,nb=m+1:=⟨nb-1,by lia⟩
  simp only[Nat.add_sub_cancel] at hl ⊢;obtain⟨y1,hy1,L⟩:=aQg (a:=b) (i:=m) (by lia)
  obtain⟨x1,hx1,O⟩:=aQg (a:=a) (i:=na-1) (by lia)
  have px1:=pa x1 (ak O);refine aC (aZh hy1 ?_);have Y:Iv (rl lt) (a.toList++b.toList) (out.push y1).toList (a.toList.take na++b.toList.take m):=by
   rw[cy];exact iv.popB sb L (hl y1 L)
  have sp:(out.push y1).size=out.size+1:=dQ ..
  by_cases c1:(m==1)=true
  ·refine aZ3 c1 ?_;exact aE (hd _ _ (finF _ _ _ g (by simpa using c1) Y))
  refine aZ4 c1 ?_;have c1':m≠1:=by simpa using c1
  refine aC (aZh hx1 (aC (bZb o (f:=λi=>b.toList.getD (0+i) (.none,.none)) hk px1 (λi hi=>?_) (λi j hij hj hb=>?_) (by lia) λk k1 k2 k3=>?_)))
  ·obtain⟨z,hz,G⟩:=aQg (a:=b) (i:=0+i) (by lia)
   rw[ai,G];exact⟨hz,pb z (ak G)⟩
  ·obtain⟨z,hz,G⟩:=aQg (a:=b) (i:=0+i) (by lia)
   obtain⟨z',hz',hzl'⟩:=aQg (a:=b) (i:=0+j) (by lia)
   rw[ai,hzl'] at hb;rw[ai,G];have hb':lt z' x1=true:=hb;show lt z x1=true;cases e:lt z x1 with
   |true=>rfl
   |false =>
    exfalso;have pz:=pb z (ak G);have pz':=pb z' (ak hzl');rcases Nat.eq_or_lt_of_le hij with rfl|hlt
    ·rw[G] at hzl';cases hzl';rw[e] at hb';cases hb'
    ·have:=o.tr x1 z z' px1 pz pz' e (sb.at (by lia) G hzl')
     rw[hb'] at this;cases this
  have ahead:∀u∈b.toList.take k,lt x1 u=false:=λu hu=>by
   obtain⟨j,hj,e⟩:=aQt hu
   have:=k2 j hj
   rw[ai,Nat.zero_add,e] at this;exact o.as _ _ (pb u (ak e)) px1 this
  dsimp only
  by_cases ck:m-k>0
  ·refine aZ3 ck ?_;have iv3:Iv (rl lt) (a.toList++b.toList) (out.push y1++(b.extract k m).reverse).toList (a.toList.take na++b.toList.take k):=by
    rw[bM,fN,aZk];refine Y.backB sb k1 λz hz u hu=>?_;obtain⟨j,hj,G⟩:=aX4 hz;have pz:=pb z (ak G);have hb:=k3 (k+j) (by lia) (by lia)
    rw[ai,Nat.zero_add,G] at hb
    have:=bXr o pa sa pz O hb
    rw[show na-1+1=na by lia] at this
    exact this u hu
   have sz3:out.size<=(out.push y1++(b.extract k m).reverse).size:=by rw[dq];lia
   by_cases c3:(k==1)=true
   ·refine aZ3 c3 ?_;exact aE (hd _ _ (finF _ _ _ g (by simpa using c3) iv3))
   ·refine aZ4 c3 ?_;have c3':k≠1:=by simpa using c3
    by_cases c4:(k==0)=true
    ·have k0:k=0:=by simpa using c4
     refine aZ3 c4 ?_;refine aE (hd _ _ (finG _ _ _ g ?_ iv3));rw[k0,km,bD];exact sa.take _
    ·refine aZ4 c4 ?_;have c4':k≠0:=by simpa using c4
     refine t2 J _ na k mg ac (m-k) g hd (λn1 n2 o' a1 b1 q1 q2 q3 q4=>hg n1 n2 o' a1 b1 q1 q2 q3 (by lia)) hna hla ⟨by lia,by lia⟩ iv3 λx hx u hu=>?_
     rw[O] at hx;cases hx;exact ahead u hu
  ·refine aZ4 ck ?_;have ek:k=m:=by lia
   refine t2 J _ na m mg ac (m-k) g hd (λn1 n2 o' a1 b1 q1 q2 q3 q4=>hg n1 n2 o' a1 b1 q1 q2 q3 (by lia)) hna hla ⟨by lia,by lia⟩ Y λx hx u hu=>?_
   rw[O] at hx;cases hx;exact ahead u (by rw[ek];exact hu)
 rw[fZ6];refine aC (i6 (db ⟨rfl,?_⟩));dsimp only;obtain⟨x0,hx0,hx0l⟩:=aQg (a:=a) (i:=a.size-1) (by lia)
 refine aC (aZh hx0 ?_);have iv0:Iv (rl lt) (a.toList++b.toList) (#[x0]:Array aO).toList (a.toList.take (a.size-1)++b.toList.take b.size):=by
  have e1:a.toList.take (a.size-1+1)=a.toList:=bI (by simp;lia)
  have e2:b.toList.take b.size=b.toList:=bI (by simp)
  have i0:Iv (rl lt) (a.toList++b.toList) [] (a.toList.take (a.size-1+1)++b.toList.take b.size):=⟨by rw[e1,e2];exact dM _,gS,by simp⟩
  exact i0.popA sa hx0l λu hu=>hlst x0 hx0l u (cz hu)
 have est:st=setG st (gallopOf st):=rfl
 by_cases ha1:(a.size-1==0)=true
 ·refine aZ3 ha1 ?_;have a0:a.size-1=0:=by simpa using ha1
  refine aE ?_;rw[est];refine finG _ _ _ _ ?_ iv0;rw[a0];exact sb.take _
 refine aZ4 ha1 ?_
 by_cases hb1:(b.size==1)=true
 ·refine aZ3 hb1 ?_;refine aE ?_;rw[est];exact finF _ _ _ _ (by simpa using hb1) iv0
 refine aZ4 hb1 ?_;have hb2:2<=b.size:=by
  have:b.size≠1:=by simpa using hb1
  lia
 have ha2:1<=a.size-1:=by
  have:a.size-1≠0:=by simpa using ha1
  lia
 refine aC (iJ ?_);refine aC (dE (bX (I:=λx c D=>∃ na nb out mg g,c=(none,na,nb,out,mg)/\D=setG st g/\1<=na/\na<=a.size/\(2<=nb/\nb<=b.size)/\Iv (rl lt) (a.toList++b.toList) out.toList (a.toList.take na++b.toList.take nb)/\x + 1<=out.size)
  (Q:=λc D=>∃r,c.fst=some r/\Q r D) ?_ ?_ ⟨_,_,#[x0],_,_,rfl,est,ha2,by lia,⟨hb2,Nat.le_refl _⟩,iv0,by simp⟩) ?_)
 ·intro x c D _ hx zq;refine hd λGq kq=>?_;obtain⟨na,nb,out,mg,g,rfl,rfl,hna,hla,hnb,iv,hsz⟩:=zq;refine kq ?_;dsimp only;refine aC (dE (bX (I:=λy c D=>∃ na' B d ac Z,c=(none,na',B,d,ac,Z)/\D=setG st g/\1<=na'/\na'<=a.size/\(2<=B/\B<=b.size)/\Iv (rl lt) (a.toList++b.toList) d.toList (a.toList.take na'++b.toList.take B)/\out.size + y<=d.size)
   (Q:=λc D=>D=setG st g/\((∃r,c.fst=some r/\Q r D)\/∃na' B d ac Z,c=(none,na',B,d,ac,Z)/\1<=na'/\na'<=a.size/\(2<=B/\B<=b.size)/\Iv (rl lt) (a.toList++b.toList) d.toList (a.toList.take na'++b.toList.take B)/\out.size+1<=d.size)) ?_ ?_ ⟨na,nb,out,0,0,rfl,rfl,hna,hla,hnb,iv,Nat.le_refl _⟩) ?_)
  ·intro y c D _ hy zq;refine hd λGq kq=>?_;obtain⟨na',B,d,ac,Z,rfl,rfl,hna',hla',hnb',iv',hsz'⟩:=zq;refine kq ?_;obtain⟨ma,rfl⟩:∃m,na'=m+1:=⟨na'-1,by lia⟩
   obtain⟨mb,rfl⟩:∃m,B=m+1:=⟨B-1,by lia⟩
   obtain⟨x1,hx1,O⟩:=aQg (a:=a) (i:=ma) (by lia)
   obtain⟨y1,hy1,L⟩:=aQg (a:=b) (i:=mb) (by lia)
   have px1:=pa x1 (ak O);have py1:=pb y1 (ak L);dsimp only;simp only[Nat.add_sub_cancel];refine aC (aZh hy1 (aC (aZh hx1 (aC (cJb o hk py1 px1 ?_)))));dsimp only;cases e:lt y1 x1 with
   |true =>
    refine aZ3 rfl ?_;refine aC (aZh hx1 ?_);have Y:Iv (rl lt) (a.toList++b.toList) (d.push x1).toList (a.toList.take ma++b.toList.take (mb+1)):=by
     rw[cy];exact iv'.popA sa O (bXr o pb sb px1 L (o.as _ _ py1 px1 e))
    have sp:(d.push x1).size=d.size+1:=dQ ..
    by_cases c1:(ma==0)=true
    ·have m0:ma=0:=by simpa using c1
     refine aZ3 c1 ?_;refine aE ⟨rfl,.inl ⟨_,rfl,finG _ _ _ g ?_ Y⟩⟩;rw[m0];exact sb.take _
    ·refine aZ4 c1 ?_;have c1':ma≠0:=by simpa using c1
     by_cases c2:ac+1>=mg
     ·refine aZ3 c2 ?_;exact aE ⟨rfl,.inr ⟨_,_,_,_,_,rfl,by lia,by lia,hnb',Y,by lia⟩⟩
     ·refine aZ4 c2 ?_;exact aE ⟨_,_,_,_,_,rfl,rfl,by lia,by lia,hnb',Y,by lia⟩
   |false =>
    refine aZ4 (by simp) ?_
    refine aC (aZh hy1 ?_);have Y:Iv (rl lt) (a.toList++b.toList) (d.push y1).toList (a.toList.take (ma+1)++b.toList.take mb):=by
     rw[cy];exact iv'.popB sb L (bXr o pa sa py1 O e)
    have sp:(d.push y1).size=d.size+1:=dQ ..
    by_cases c1:(mb==1)=true
    ·refine aZ3 c1 ?_;exact aE ⟨rfl,.inl ⟨_,rfl,finF _ _ _ g (by simpa using c1) Y⟩⟩
    ·refine aZ4 c1 ?_;have c1':mb≠1:=by simpa using c1
     by_cases c2:Z+1>=mg
     ·refine aZ3 c2 ?_;exact aE ⟨rfl,.inr ⟨_,_,_,_,_,rfl,by lia,by lia,⟨by lia,by lia⟩,Y,by lia⟩⟩
     ·refine aZ4 c2 ?_;exact aE ⟨_,_,_,_,_,rfl,rfl,by lia,by lia,⟨by lia,by lia⟩,Y,by lia⟩
  ·intro c D zq;refine hd λGq kq=>?_;obtain⟨na',B,d,ac,Z,rfl,rfl,hna',hla',hnb',iv',hsz'⟩:=zq;refine kq ?_;exact⟨rfl,.inr ⟨_,_,_,_,_,rfl,hna',hla',hnb',iv',by lia⟩⟩
  ·rintro c D ⟨rfl,⟨r,hr,q⟩|⟨na1,nb1,out1,ac1,bc1,rfl,hna1,hla1,hnb1,iv1,hsz1⟩⟩
   ·obtain⟨c1,c2⟩:=c;dsimp only at hr;subst hr;exact aE ⟨r,rfl,q⟩
   ·dsimp only;refine aC (i6 (db ⟨rfl,?_⟩));refine aC (dE (bX (I:=λy c D=>∃ na' B d mg' ac Z g',c=(none,na',B,d,mg',ac,Z)/\D=setG st g'/\1<=na'/\(na'<=a.size/\2<=B/\B<=b.size)/\Iv (rl lt) (a.toList++b.toList) d.toList (a.toList.take na'++b.toList.take B)/\out1.size<=d.size)
     (Q:=λc D=>(∃r,c.fst=some r/\Q r D)\/∃na' B d mg' ac Z g',c=(none,na',B,d,mg',ac,Z)/\D=setG st g'/\1<=na'/\(na'<=a.size/\2<=B/\B<=b.size)/\Iv (rl lt) (a.toList++b.toList) d.toList (a.toList.take na'++b.toList.take B)/\out1.size<=d.size) ?_ ?_ ⟨na1,nb1,out1,_,ac1,bc1,g,rfl,rfl,hna1,⟨hla1,hnb1⟩,iv1,Nat.le_refl _⟩) ?_)
    ·intro y c D _ hy zq;refine hd λGq kq=>?_;obtain⟨na',B,d,mg',ac,Z,g',rfl,rfl,hna',⟨hla',hnb'⟩,iv',hsz'⟩:=zq;refine kq ?_;dsimp only;obtain⟨y1,hy1,L⟩:=aQg (a:=b) (i:=B-1) (by lia)
     have py1:=pb y1 (ak L);have fa:∀i,i<na'->a[0+i]?=some (a.toList.getD (0+i) (.none,.none))/\P (a.toList.getD (0+i) (.none,.none)):=λi hi=>by
      obtain⟨z,hz,G⟩:=aQg (a:=a) (i:=0+i) (by lia)
      rw[ai,G];exact⟨hz,pa z (ak G)⟩
     have mono:∀i j,i<=j->j<na'->bv lt false y1 (a.toList.getD (0+j) (.none,.none))=true->bv lt false y1 (a.toList.getD (0+i) (.none,.none))=true:=λi j hij hj hb=>by
      obtain⟨z,hz,G⟩:=aQg (a:=a) (i:=0+i) (by lia)
      obtain⟨z',hz',hzl'⟩:=aQg (a:=a) (i:=0+j) (by lia)
      rw[ai,hzl'] at hb;rw[ai,G];have hb':lt y1 z'=false:=by simpa [bv] using hb
      show(!lt y1 z)=true;rcases Nat.eq_or_lt_of_le hij with rfl|hlt
      ·rw[G] at hzl';cases hzl';rw[hb'];rfl
      ·rw[o.tr z z' y1 (pa z (ak G)) (pa z' (ak hzl')) py1 (sa.at (by lia) G hzl') hb'];rfl
     clear kq
     revert mg'
     refine dJ4 (λ_=>rfl) λm2=>?_;refine aC (cX (aC (aZh hy1 (aC (bZb o (f:=λi=>a.toList.getD (0+i) (.none,.none)) hk py1 fa mono (by lia) λk k1 k2 k3=>?_)))))
     dsimp only;have ahead:∀u∈a.toList.take k,lt y1 u=false:=λu hu=>by
      obtain⟨j,hj,e⟩:=aQt hu
      have:=k2 j hj
      rw[ai,Nat.zero_add,e] at this;have h1:(!lt y1 u)=true:=this;simpa using h1
     by_cases ck:na'-k>0
     ·refine aZ3 ck ?_;have iv3:Iv (rl lt) (a.toList++b.toList) (d++(a.extract k na').reverse).toList (a.toList.take k++b.toList.take B):=by
       rw[bM,fN,aZk];refine iv'.backA sa k1 λz hz u hu=>?_;obtain⟨j,hj,G⟩:=aX4 hz;have hb:=k3 (k+j) (by lia) (by lia)
       rw[ai,Nat.zero_add,G] at hb;have h1:(!lt y1 z)=false:=hb;have pz:=pa z (ak G)
       have:=bXr o pb sb pz L (o.as _ _ py1 pz (by simpa using h1))
       rw[show B-1+1=B by lia] at this
       exact this u hu
      have sz3:out1.size<=(d++(a.extract k na').reverse).size:=by rw[dq];lia
      by_cases c3:(k==0)=true
      ·have k0:k=0:=by simpa using c3
       refine aZ3 c3 ?_;refine aE (.inl ⟨_,rfl,finG _ _ _ _ ?_ iv3⟩);rw[k0];exact sb.take _
      ·refine aZ4 c3 ?_;have c3':k≠0:=by simpa using c3
       refine t1 _ _ k B m2 (na'-k) Z m2 (λr c' q=>.inl ⟨r,rfl,q⟩) (λn1 n2 o' a1 b1 q1 q2 q3 q4=>⟨.inr ⟨_,_,_,_,_,_,_,rfl,rfl,q1,q2,q3,by lia⟩,⟨_,_,_,_,_,_,_,rfl,rfl,q1,q2,q3,by lia⟩⟩) (by lia) (by lia) hnb' iv3 λy hy u hu=>?_
       rw[L] at hy;cases hy;exact ahead u hu
     ·refine aZ4 ck ?_;have ek:k=na':=by lia
      refine t1 _ _ na' B m2 (na'-k) Z m2 (λr c' q=>.inl ⟨r,rfl,q⟩) (λn1 n2 o' a1 b1 q1 q2 q3 q4=>⟨.inr ⟨_,_,_,_,_,_,_,rfl,rfl,q1,q2,q3,by lia⟩,⟨_,_,_,_,_,_,_,rfl,rfl,q1,q2,q3,by lia⟩⟩) hna' hla' hnb' iv' λy hy u hu=>?_
      rw[L] at hy;cases hy;exact ahead u (by rw[ek];exact hu)
    ·intro c D zq;refine hd λGq kq=>?_;obtain⟨na',B,d,mg',ac,Z,g',rfl,rfl,hna',hl',iv',hsz'⟩:=zq;refine kq ?_;exact .inr ⟨_,_,_,_,_,_,_,rfl,rfl,hna',hl',iv',hsz'⟩
    ·rintro c D (⟨r,hr,q⟩|⟨na',B,d,mg',ac,Z,g',rfl,rfl,hna',hl',iv',hsz'⟩)
     ·obtain⟨c1,c2⟩:=c;dsimp only at hr;subst hr;exact aE ⟨r,rfl,q⟩
     ·dsimp only;exact aC (cX (aE ⟨_,_,_,_,_,rfl,rfl,hna',hl'.1,hl'.2,iv',by lia⟩))
 ·intro c D zq;refine hd λGq kq=>?_;obtain⟨na,nb,out,mg,g,rfl,rfl,hna,hla,hnb,iv,hsz⟩:=zq;refine kq ?_;exfalso
  have:=iv.size
  rw[sz,be] at this;lia
 ·rintro c D ⟨r,hr,q⟩;obtain⟨c1,c2⟩:=c;dsimp only at hr;subst hr;exact aE q
end
theorem fZ8(i:Nat):mergeAt' i=(do
 let s <- get
 let (some (sa,na,pw),some (sb,nb,_)):=((bT s)[i]?,(bT s)[i+1]?)|fo "internal:list.sort.pending"
 set (fO s (((bT s).setIfInBounds i (sa,na+nb,pw)).eraseIdxIfInBounds (i+1)))
 let some k <- gal false (<- eK (aU s) sb) (aU s) sa na 0|return false
 let (sa,na):=(sa+k,na-k)
 if na==0 then return true
 let some nb <- gal true (<- eK (aU s) (sa+na-1)) (aU s) sb nb (nb-1)|return false
 if nb==0 then return true
 let x:=(aU s).extract sa sb
 let y:=(aU s).extract sb (sb+nb)
 let m <- if na<=nb then mLo x y else mHi x y
 modify λs=>cV s (m.toList.zipIdx.foldl (λa (p,j)=>a.setIfInBounds (sa+j) p) (aU s))
 return (fM (<- get)).isNone):=rfl
theorem eZ9{M:Model}{A:bi}{E:ad->aj->Prop}{s:aj}{σ:Type}{st st':σ}{Q:PUnit->σ->Prop}(h:Q ⟨⟩ st'):wpS M A E s (set st':StateT σ Sem PUnit) Q st:=by
 unfold wpS;show aH M A (pure (PUnit.unit,st'):Sem (PUnit×σ)) _ E s;exact af ⟨rfl,h⟩
theorem cQr(off:Nat):∀(M:List aO) (k:Nat) (xs:Array aO),off+k+M.length<=xs.size->((M.zipIdx k).foldl (λa pj=>a.setIfInBounds (off+pj.2) pj.1) xs).toList=xs.toList.take (off+k)++M++xs.toList.drop (off+k+M.length)
 |[],k,xs,h=>by simp
 |x::M,k,xs,h=>by
  rw[jL,j6,cQr off M (k+1) _ (by simp at h ⊢;lia)]
  simp only[i7];rw[aT] at h ⊢;have hl:off+k<xs.toList.length:=by simp;lia
  rw[show off+(k+1)=off+k+1 by lia,List.take_set,List.drop_set_of_lt (by lia),List.set_eq_take_append_cons_drop]
  have d:(off+k)<(xs.toList.take (off+k+1)).length:=by rw[aK];lia
  rw[if_pos d,List.take_take,Nat.min_eq_left (by lia),bL (by rw[aK];lia)]
  simp[a6,show off+k+1+M.length=off+k+(M.length+1) by lia]
section
variable{prog:aD}{w:aR}{A:bi}{E:ad->aj->Prop}{s:aj}{κ:fg}{P:aO->Prop}{lt:aO->aO->Bool}
theorem fZ9(o:Orc prog w A s κ P lt){st:cW}{i sa na pw sb nb pw':Nat}{L1 Aa Bb L2:List aO}{Q:Bool->cW->Prop}(hk:kindOf st=κ)(hf:fM st=none)(hp1:(bT st)[i]?=some (sa,na,pw))(hp2:(bT st)[i+1]?=some (sb,nb,pw'))
  (hsb:sb=sa+na) (hl:(aU st).toList=L1++(Aa++(Bb++L2))) (l1:L1.length=sa) (lA:Aa.length=na) (lB:Bb.length=nb) (na1:1<=na) (nb1:1<=nb) (PA:∀x∈Aa,P x) (PB:∀x∈Bb,P x) (sA:Sd lt Aa) (sB:Sd lt Bb)
  (h:∀C g xs,xs.toList=L1++(C++L2)->Sd lt C->C.Perm (Aa++Bb)->Q true (i5 κ xs (((bT st).setIfInBounds i (sa,na+nb,pw)).eraseIdxIfInBounds (i+1)) g none)):wpS (aF prog w) A E s (mergeAt' i) Q st:=by
 have hsz:(aU st).size=sa+na+nb+L2.length:=by
  have:=congrArg fj hl
  simp only[be,ar] at this;lia
 have atA:∀j x,Aa[j]?=some x->(aU st)[sa+j]?=some x:=λj x d=>by
  have hjl:=(ay.mp d).1;rw[<- a7,hl,cf (by lia),l1,Nat.add_sub_cancel_left,dU hjl];exact d
 have atB:∀j x,Bb[j]?=some x->(aU st)[sb+j]?=some x:=λj x d=>by
  have hjl:=(ay.mp d).1;rw[<- a7,hl,cf (by lia),l1,cf (by lia),lA,dU (by lia)]
  rw[show sb+j-sa-na=j by lia];exact d
 have O:∀j,j<na->∃x,Aa[j]?=some x:=λj d=>⟨Aa[j],ag (by lia)⟩
 have L:∀j,j<nb->∃x,Bb[j]?=some x:=λj d=>⟨Bb[j],ag (by lia)⟩
 obtain⟨b0,hb0⟩:=L 0 nb1;have pb0:=PB b0 (ak hb0);rw[fZ8];refine aC (iJ ?_);rw[hp1,hp2];dsimp only;refine aC (eZ9 ?_);have Z:kindOf (fO st (((bT st).setIfInBounds i (sa,na+nb,pw)).eraseIdxIfInBounds (i+1)))=κ:=hk;have est:∀g xs,cV (setG (fO st (((bT st).setIfInBounds i (sa,na+nb,pw)).eraseIdxIfInBounds (i+1))) g) xs=i5 κ xs (((bT st).setIfInBounds i (sa,na+nb,pw)).eraseIdxIfInBounds (i+1)) g none:=λg xs=>by
  show i5 (kindOf st) xs _ g (fM st)=_;rw[hk,hf]
 refine aC (aZh (x:=b0) (by have:=atB 0 b0 hb0;rwa [Nat.add_zero] at this) (aC (bZb o (f:=λj=>Aa.getD j (.none,.none)) Z pb0 (λj d=>?_) (λj j' hjj d hb=>?_) (by lia) λk k1 k2 k3=>?_)))
 ·obtain⟨x,D⟩:=O j d;rw[ai,D];exact⟨atA j x D,PA x (ak D)⟩
 ·obtain⟨z,hz⟩:=O j (by lia)
  obtain⟨z',hz'⟩:=O j' d;rw[ai,hz'] at hb;rw[ai,hz];have hb':lt b0 z'=false:=by simpa [bv] using hb
  show(!lt b0 z)=true;rcases Nat.eq_or_lt_of_le hjj with rfl|hlt
  ·rw[hz] at hz';cases hz';rw[hb'];rfl
  ·rw[o.tr z z' b0 (PA z (ak hz)) (PA z' (ak hz')) pb0 (sA.at hlt hz hz') hb'];rfl
 have Y:∀u∈Aa.take k,∀v∈Bb,lt v u=false:=λu G v J=>by
  obtain⟨j,d,e⟩:=aQt G
  have:=k2 j d
  rw[ai,e] at this;have h1:(!lt b0 u)=true:=this;exact bXq o PB sB (i:=0) (PA u (ak e)) hb0 (by simpa using h1) v J
 have upA:∀u∈Aa.drop k,lt u b0=false:=λu G=>by
  obtain⟨j,d,e⟩:=aQp G;have hjl:=(ay.mp e).1
  have:=k3 j d (by lia)
  rw[ai,e] at this;have h1:(!lt b0 u)=false:=this;exact o.as _ _ pb0 (PA u (ak e)) (by simpa using h1)
 dsimp only;have whole:∀g,Sd lt (Aa++Bb)->Q true (setG (fO st (((bT st).setIfInBounds i (sa,na+nb,pw)).eraseIdxIfInBounds (i+1))) g):=λg hs=>by
  have:=h (Aa++Bb) g (aU st) (by rw[hl,a6]) hs (dM _)
  rw[<- est g (aU st)] at this;exact this
 by_cases c1:(na-k==0)=true
 ·rw[if_pos c1];have kn:k=na:=by
   have:na-k=0:=by simpa using c1
   lia
  refine aE (whole _ (bA.mpr ⟨sA,sB,λu G v J=>Y u ?_ v J⟩));rw[kn,<- lA,bR];exact G
 rw[if_neg c1];have c1':na-k≠0:=by simpa using c1
 obtain⟨al,hal⟩:=O (na-1) (by lia)
 have pal:=PA al (ak hal);refine aC (aZh (x:=al) (by have:=atA _ al hal;rwa [show sa+k+(na-k)-1=sa+(na-1) by lia]) (aC (bZb o (f:=λj=>Bb.getD j (.none,.none)) Z pal (λj d=>?_) (λj j' hjj d hb=>?_) (by lia) λm m1 m2 m3=>?_)))
 ·obtain⟨x,D⟩:=L j d;rw[ai,D];exact⟨atB j x D,PB x (ak D)⟩
 ·obtain⟨z,hz⟩:=L j (by lia)
  obtain⟨z',hz'⟩:=L j' d;rw[ai,hz'] at hb;rw[ai,hz];have hb':lt z' al=true:=hb;show lt z al=true;cases e:lt z al with
  |true=>rfl
  |false =>
   exfalso;have pz:=PB z (ak hz);have pz':=PB z' (ak hz');rcases Nat.eq_or_lt_of_le hjj with rfl|hlt
   ·rw[hz] at hz';cases hz';rw[e] at hb';cases hb'
   ·have:=o.tr al z z' pal pz pz' e (sB.at hlt hz hz')
    rw[hb'] at this;cases this
 have upB:∀v∈Bb.drop m,∀u∈Aa,lt v u=false:=λv J u G=>by
  obtain⟨j,d,e⟩:=aQp J;have hjl:=(ay.mp e).1
  have:=m3 j d (by lia)
  rw[ai,e] at this;have h1:lt v al=false:=this
  have:=bXr o PA sA (PB v (ak e)) hal h1
  rw[show na-1+1=Aa.length by lia,bR] at this
  exact this u G
 have lowB:∀v∈Bb.take m,lt al v=false:=λv J=>by
  obtain⟨j,d,e⟩:=aQt J
  have:=m2 j d
  rw[ai,e] at this;exact o.as _ _ (PB v (ak e)) pal this
 dsimp only
 by_cases c2:(m==0)=true
 ·rw[if_pos c2];have m0:m=0:=by simpa using c2
  refine aE (whole _ (bA.mpr ⟨sA,sB,λu G v J=>upB v ?_ u G⟩));rw[m0];exact J
 rw[if_neg c2];have c2':m≠0:=by simpa using c2
 have ex:((aU st).extract (sa+k) sb).toList=Aa.drop k:=by
  rw[aZk,hl,<- l1,fU,bL (by lia),bN,Nat.add_sub_cancel_left,iq (by lia),d9 (by rw[bf];lia)]
  exact bI (by rw[bf];lia)
 have ey:((aU st).extract sb (sb+m)).toList=Bb.take m:=by
  rw[aZk,hl,Nat.add_sub_cancel_left,fU,bL (by lia),bN,fU,bL (by lia),bN,show sb-L1.length-Aa.length=0 by lia,iT,d9 (by lia)]
 have zx:((aU st).extract (sa+k) sb).size=na-k:=by rw[<- be,ex,bf,lA]
 have zy:((aU st).extract sb (sb+m)).size=m:=by rw[<- be,ey,aK];lia
 have fin:∀ (M:Array aO) g,Sd lt M.toList->M.toList.Perm (((aU st).extract (sa + k) sb).toList++((aU st).extract sb (sb + m)).toList)->wpS (aF prog w) A E s (do
   modify λs=>cV s (M.toList.zipIdx.foldl (λa U=>a.setIfInBounds (sa+k+U.2) U.1) (aU s))
   let z <- get
   pure (fM z).isNone) Q (setG (fO st (((bT st).setIfInBounds i (sa,na+nb,pw)).eraseIdxIfInBounds (i+1))) g):=λM g hs B=>by
  refine aC (cX (aC (iJ (aE ?_))));rw[ex,ey] at B;have ml:=B.length_eq;rw[ar,bf,aK] at ml;have ll:=cQr (sa+k) M.toList 0 (aU st) (by lia)
  have hfn:(fM (cV (setG (fO st (((bT st).setIfInBounds i (sa,na+nb,pw)).eraseIdxIfInBounds (i+1))) g) (M.toList.zipIdx.foldl (λa U=>a.setIfInBounds (sa+k+U.2) U.1) (aU st)))).isNone=true:=by
   show(fM st).isNone=true;rw[hf];rfl
  have main:=h (Aa.take k++(M.toList++Bb.drop m)) g (M.toList.zipIdx.foldl (λa U=>a.setIfInBounds (sa+k+U.2) U.1) (aU st)) ?_ ?_ ?_
  ·rw[<- est g] at main;show Q _ _;have e0:(fM (cV (setG (fO st (((bT st).setIfInBounds i (sa,na+nb,pw)).eraseIdxIfInBounds (i+1))) g) (M.toList.zipIdx.foldl (λa U=>a.setIfInBounds (sa+k+U.2) U.1) (aU st)))).isNone=true:=hfn;exact(e0.symm▸main)
  ·rw[ll,hl];have t1:(L1++(Aa++(Bb++L2))).take (sa+k+0)=L1++Aa.take k:=by
    rw[<- l1,Nat.add_zero,List.take_append,bI (by lia),Nat.add_sub_cancel_left,d9 (by lia)]
   have t2:(L1++(Aa++(Bb++L2))).drop (sa+k+0+M.toList.length)=Bb.drop m++L2:=by
    rw[fU,bL (by lia),bN,fU,bL (by lia),bN,show sa+k+0+M.toList.length-L1.length-Aa.length=m by lia,iq (by lia)]
   rw[t1,t2];simp only[a6]
  ·have sA':Sd lt (Aa.take k++Aa.drop k):=by rw[bQ];exact sA
   have sB':Sd lt (Bb.take m++Bb.drop m):=by rw[bQ];exact sB
   obtain⟨a1,_,a3⟩:=bA.mp sA';obtain⟨_,b2,b3⟩:=bA.mp sB';refine bA.mpr ⟨a1,bA.mpr ⟨hs,b2,λu G v J=>?_⟩,λu G v J=>?_⟩
   ·rcases aJ.mp (B.mem_iff.mp G) with z|z
    ·exact upB v J u (cM z)
    ·exact b3 u z v J
   ·rcases aJ.mp J with z|z
    ·rcases aJ.mp (B.mem_iff.mp z) with y|y
     ·exact a3 u G v y
     ·exact Y u G v (cz y)
    ·exact Y u G v (cM z)
  ·have e1:(Aa++Bb)=Aa.take k++(Aa.drop k++(Bb.take m++Bb.drop m)):=by rw[<- a6,bQ,bQ]
   rw[e1];refine dX _ ?_;rw[<- a6];exact eE _ B
 have pX:∀x∈((aU st).extract (sa+k) sb).toList,P x:=λx D=>PA x (cM (by rw[ex] at D;exact D))
 have pY:∀x∈((aU st).extract sb (sb+m)).toList,P x:=λx D=>PB x (cz (by rw[ey] at D;exact D))
 have hF:∀y,((aU st).extract sb (sb+m)).toList[0]?=some y->∀x∈((aU st).extract (sa+k) sb).toList,lt x y=false:=λy hy x D=>by
  rw[ey,f8 (by lia),hb0] at hy
  cases hy;rw[ex] at D;exact upA x D
 have hL:∀z,((aU st).extract (sa+k) sb).toList[((aU st).extract (sa+k) sb).size-1]?=some z->∀y∈((aU st).extract sb (sb+m)).toList,lt z y=false:=λz hz y hy=>by
  rw[ex,zx,iU,show k+(na-k-1)=na-1 by lia,hal] at hz
  cases hz;rw[ey] at hy;exact lowB y hy
 have sX:Sd lt ((aU st).extract (sa+k) sb).toList:=by rw[ex];exact sA.drop k
 have sY:Sd lt ((aU st).extract sb (sb+m)).toList:=by rw[ey];exact sB.take m
 by_cases c3:na-k<=m
 ·rw[if_pos c3];exact aC (fZ5 o Z pX pY sX sY (by lia) (by lia) hF hL λM g hs B=>fin M g hs B)
 ·rw[if_neg c3];exact aC (fZ7 o Z pX pY sX sY (by lia) (by lia) hF hL λM g hs B=>fin M g hs B)
end
def at0(xs:Array aO)(i:Nat):aO:=(xs[i]?).getD (.none,.none)
theorem cJd{xs ys:Array aO}{i j:Nat}(h:xs[i]?=ys[j]?):at0 xs i=at0 ys j:=by unfold at0;rw[h]
def Gd(lo:Nat)(a xs:Array aO):Prop:=xs.Perm a/\∀i,i<lo->xs[i]?=a[i]?
theorem Gd.size{lo:Nat}{a xs:Array aO}(h:Gd lo a xs):xs.size=a.size:=h.1.size_eq
def Up(lt:aO->aO->Bool)(xs:Array aO)(i j:Nat):Prop:=∀p q,i<=p->p<q->q<j->lt (at0 xs q) (at0 xs p)=false
def Dn(lt:aO->aO->Bool)(xs:Array aO)(i j:Nat):Prop:=∀p q,i<=p->p<q->q<j->lt (at0 xs p) (at0 xs q)=false
def Eqs(lt:aO->aO->Bool)(xs:Array aO)(i j:Nat):Prop:=∀p q,i<=p->p<j->i<=q->q<j->lt (at0 xs p) (at0 xs q)=false
theorem bQh{xs:Array aO}{i j:Nat}(hj:j<=xs.size)(k:Nat):at0 (dR xs i j ((j-i)/2)) k=if i<=k/\k<j then at0 xs (i+j-1-k) else at0 xs k:=by
 have e:=getElem?_mirror_all (i:=i) hj k
 split at e
 ·next h=>rw[if_pos h];exact cJd e
 ·next h=>rw[if_neg h];exact cJd e
theorem Gd.rev{lo i j d:Nat}{a xs:Array aO}(h:Gd lo a xs)(hi:lo<=i)(hj:j<=xs.size)(hd:d=(j-i)/2):Gd lo a (dR xs i j d):=by
 subst hd;refine⟨(mirror_perm _ _ _ _).trans h.1,λk B=>?_⟩;rw[getElem?_mirror_all hj,if_neg (by lia)]
 exact h.2 k B
section
variable{prog:aD}{w:aR}{A:bi}{E:ad->aj->Prop}{s:aj}{κ:fg}{P:aO->Prop}{lt:aO->aO->Bool}
theorem gd_P{lo:Nat}{a xs:Array aO}(h:Gd lo a xs)(PA:∀x∈a.toList,P x){i:Nat}(hi:i<a.size):xs[i]?=some (at0 xs i)/\P (at0 xs i):=by
 have d:i<xs.size:=by rw[h.size];exact hi
 have e:xs[i]?=some xs[i]:=getElem?_pos _ i d;have j:at0 xs i=xs[i]:=by unfold at0;rw[e];rfl
 rw[j];exact⟨e,PA _ ((cY.mp h.1).mem_iff.mp (by simp))⟩
theorem aZi(o:Orc prog w A s κ P lt){st:cW}{xs:Array aO}{lo i j:Nat}{Q:Option Bool->cW->Prop}(hk:kindOf st=κ)(PA:∀x∈(aU st).toList,P x)(g:Gd lo (aU st) xs)(hi:i<(aU st).size)(hj:j<(aU st).size)(h:Q (some (lt (at0 xs i) (at0 xs j))) (cV st xs)) :
  wpS (aF prog w) A E s (ltAt' i j) Q (cV st xs):=by
 rw[ltAt'_eq];refine aC (iJ ?_);obtain⟨D,d⟩:=gd_P g PA hi;obtain⟨B,p2⟩:=gd_P g PA hj;exact aC (aZh D (aC (aZh B (cJb o hk d p2 h))))
theorem irr(o:Orc prog w A s κ P lt){x:aO}(hx:P x):lt x x=false:=by
 cases e:lt x x with
 |false=>rfl
 |true=>exact absurd (e.symm.trans (o.as x x hx hx e)) (by decide)
variable{st:cW}{xs:Array aO}{lo:Nat}
theorem Up.more(o:Orc prog w A s κ P lt){i j:Nat}(hP:∀p,p<=j->P (at0 xs p))(h:Up lt xs i j)(hij:i<j)(e:lt (at0 xs j) (at0 xs (j-1))=false):Up lt xs i (j+1):=λp q h1 h2 d=>by
 rcases Nat.lt_or_ge q j with z|z
 ·exact h p q h1 h2 z
 ·have:q=j:=by lia
  subst this;rcases Nat.lt_or_ge p (q-1) with y|y
  ·exact o.tr _ _ _ (hP p (by lia)) (hP (q-1) (by lia)) (hP q (by lia)) (h p (q-1) h1 y (by lia)) e
  ·have:p=q-1:=by lia
   rw[this];exact e
theorem Dn.more(o:Orc prog w A s κ P lt){i j:Nat}(hP:∀p,p<=j->P (at0 xs p))(h:Dn lt xs i j)(hij:i<j)(e:lt (at0 xs (j-1)) (at0 xs j)=false):Dn lt xs i (j+1):=λp q h1 h2 d=>by
 rcases Nat.lt_or_ge q j with z|z
 ·exact h p q h1 h2 z
 ·have:q=j:=by lia
  subst this;rcases Nat.lt_or_ge p (q-1) with y|y
  ·exact o.tr _ _ _ (hP q (by lia)) (hP (q-1) (by lia)) (hP p (by lia)) e (h p (q-1) h1 y (by lia))
  ·have:p=q-1:=by lia
   rw[this];exact e
theorem Dn.rev{i j d:Nat}(h:Dn lt xs i j)(hj:j<=xs.size)(hd:d=(j-i)/2):Up lt (dR xs i j d) i j:=λp q h1 h2 B=>by
 subst hd;rw[bQh hj,bQh hj,if_pos ⟨by lia,by lia⟩,if_pos ⟨by lia,by lia⟩]
 exact h _ _ (by lia) (by lia) (by lia)
theorem Dn.eqs{i j c d:Nat}(h:Dn lt xs i j)(hc:i<=c)(he:Eqs lt xs c j)(hj:j<=xs.size)(hd:d=(j-c)/2):Dn lt (dR xs c j d) i j:=λp q h1 h2 B=>by
 subst hd;rw[bQh hj,bQh hj]
 by_cases a1:c<=p/\p<j
 ·rw[if_pos a1,if_pos ⟨by lia,by lia⟩]
  exact he _ _ (by lia) (by lia) (by lia) (by lia)
 ·rw[if_neg a1]
  by_cases a2:c<=q/\q<j
  ·rw[if_pos a2];exact h _ _ h1 (by lia) (by lia)
  ·rw[if_neg a2];exact h _ _ h1 h2 B
theorem fZa(o:Orc prog w A s κ P lt){nrem:Nat}{Q:Option Nat->cW->Prop}(hk:kindOf st=κ)(PA:∀x∈(aU st).toList,P x)(hn:1<=nrem)(hs:lo+nrem<=(aU st).size)
  (h:∀n xs,1<=n->n<=nrem->Gd lo (aU st) xs->Up lt xs lo (lo+n)->Q (some n) (cV st xs)):wpS (aF prog w) A E s (countRun' lo nrem) Q st:=by
 have D:∀ {xs},Gd lo (aU st) xs->∀ p,p < (aU st).size->P (at0 xs p):=λg p G=>(gd_P g PA G).2;rw[countRun'_eq];dsimp only;have est:st=cV st (aU st):=rfl;have g0:Gd lo (aU st) (aU st):=⟨j8 _,λ_ _=>rfl⟩;refine aC (dE (bX (I:=λx c d=>d=cV st (aU st)/\c=(none,x)/\1<=x/\Up lt (aU st) lo (lo + x))
  (Q:=λc d=>d=cV st (aU st)/\∃n,c=(none,n)/\1<=n/\n<=nrem/\Up lt (aU st) lo (lo+n)/\(n<nrem->lt (at0 (aU st) (lo+n)) (at0 (aU st) (lo+n-1))=true)) ?_ ?_ ⟨est,rfl,Nat.le_refl _,λp q _ _ _=>by lia⟩) ?_)
 ·rintro x c d _ hx ⟨rfl,rfl,h1,B⟩;dsimp only;refine aC (aZi o (i:=lo+x) (j:=lo+x-1) hk PA g0 (by lia) (by lia) ?_)
  dsimp only;cases e:lt (at0 (aU st) (lo+x)) (at0 (aU st) (lo+x-1)) with
  |true=>rw[if_pos rfl];exact aE ⟨rfl,x,rfl,h1,by lia,B,λ_=>e⟩
  |false=>rw[if_neg (by simp)];exact aE ⟨rfl,rfl,by lia,Up.more o (i:=lo) (j:=lo+x) (λp G=>D g0 p (by lia)) B (by lia) e⟩
 ·rintro c d ⟨rfl,rfl,h1,B⟩;refine⟨rfl,_,rfl,by lia,by lia,B,λz=>by lia⟩
 ·rintro c d ⟨rfl,n,rfl,L,J,B,hlt⟩;dsimp only
  by_cases c0:(n==nrem)=true
  ·rw[if_pos c0];exact aE (h n _ L J g0 B)
  rw[if_neg c0];have c0':n<nrem:=by
   have:n≠nrem:=by simpa using c0
   lia
  have hlt':=hlt c0';have pp:∀p,p<=lo+n->P (at0 (aU st) p):=λp G=>D g0 p (by lia)
  have hle:=o.as _ _ (pp _ (Nat.le_refl _)) (pp _ (by lia)) hlt'
  by_cases cn:n>1
  ·rw[if_pos cn];refine aC (aZi o (i:=lo) (j:=lo+n-1) hk PA g0 (by lia) (by lia) ?_)
   dsimp only;cases e:lt (at0 (aU st) lo) (at0 (aU st) (lo+n-1)) with
   |true=>rw[if_pos rfl];exact aE (h n _ L J g0 B)
   |false =>
    rw[if_neg (by simp),dF]
    have down:∀p,lo<=p->p<lo+n->lt (at0 (aU st) p) (at0 (aU st) (lo+n-1))=false:=λp h1 h2=>by
     rcases Nat.eq_or_lt_of_le h1 with rfl|h1
     ·exact e
     ·exact o.tr _ _ _ (pp _ (by lia)) (pp _ (by lia)) (pp _ (by lia)) e (B lo p (Nat.le_refl _) h1 h2)
    have dn:Dn lt (aU st) lo (lo+n):=λp q h1 h2 Z=>by
     rcases Nat.eq_or_lt_of_le (show q<=lo+n-1 by lia) with z|z
     ·rw[z];exact down p h1 (by lia)
     ·exact o.tr _ _ _ (pp _ (by lia)) (pp _ (by lia)) (pp _ (by lia)) (B q (lo+n-1) (by lia) z (by lia)) (down p h1 (by lia))
    have eqs:Eqs lt (aU st) lo (lo+n):=λp q h1 h2 Z h4=>by
     rcases Nat.lt_trichotomy p q with z|z|z
     ·exact dn p q h1 z h4
     ·subst z;exact irr o (pp _ (by lia))
     ·exact B q p Z z h2
    have g2:Gd lo (aU st) (dR (aU st) lo (lo+n) ((lo+n-lo)/2)):=g0.rev (Nat.le_refl _) (by lia) rfl
    have hd:Dn lt (dR (aU st) lo (lo+n) ((lo+n-lo)/2)) lo (lo+(n+1)):=by
     refine Dn.more o (i:=lo) (j:=lo+n) (λp G=>D g2 p (by lia)) (dn.eqs (Nat.le_refl _) eqs (by lia) rfl) (by lia) ?_
     have rv:=bQh (xs:=aU st) (i:=lo) (j:=lo+n) (by lia)
     rw[rv,rv,if_pos ⟨by lia,by lia⟩,if_neg (by lia)]
     exact o.tr _ _ _ (pp _ (by lia)) (pp (lo+n-1) (by lia)) (pp _ (by lia)) hle (down _ (by lia) (by lia))
    have J:=c0';refine aC (cX ?_);change wpS _ _ _ _ _ _ (cV st (dR (aU st) lo (lo+n) ((lo+n-lo)/2)))
    rename Gd lo (aU st) (dR (aU st) lo (lo+n) ((lo+n-lo)/2))=>g
    generalize dR (aU st) lo (lo + n) ((lo + n - lo) / 2)=xs at g hd ⊢;refine aC (i6 (db ⟨rfl,?_⟩));refine aC (dE (bX (I:=λx c d=>∃ xs q,d=cV st xs/\c=(none,x,q)/\2<=x/\q + 1<=x/\Gd lo (aU st) xs/\Dn lt xs lo (lo + x)/\Eqs lt xs (lo + x - (q + 1)) (lo + x))
     (Q:=λc d=>∃ xs n q,d=cV st xs/\c=(none,n,q)/\1<=n/\n<=nrem/\q + 1<=n/\Gd lo (aU st) xs/\Dn lt xs lo (lo + n)/\Eqs lt xs (lo + n - (q + 1)) (lo + n)) ?_ ?_ ⟨xs,0,rfl,rfl,by lia,by lia,g,hd,λp q h1 h2 Z h4=>by
      have:p=q:=by lia
      subst this;exact irr o (D g p (by lia))⟩) ?_)
    ·rintro x c d _ hx ⟨xs,q,rfl,rfl,x2,Y,g,hd,he⟩;have hxs:xs.size=(aU st).size:=g.size;dsimp only;refine aC (aZi o (i:=lo+x) (j:=lo+x-1) hk PA g (by lia) (by lia) ?_)
     dsimp only;cases e:lt (at0 xs (lo+x)) (at0 xs (lo+x-1)) with
     |true =>
      rw[if_pos rfl];have e2:=o.as _ _ (D g _ (by lia)) (D g _ (by lia)) e
      have one:∀ys,Gd lo (aU st) ys->Eqs lt ys (lo+(x+1)-(0+1)) (lo+(x+1)):=λys g' p q h1 h2 Z h4=>by
       have:p=q:=by lia
       subst this;exact irr o (D g' p (by lia))
      by_cases U:q>0
      ·rw[if_pos U,dF];have hd2:(lo+x-(lo+x-(q+1)))/2=(lo+x-(lo+x-(q+1)))/2:=rfl;have g2:Gd lo (aU st) (dR xs (lo+x-(q+1)) (lo+x) ((lo+x-(lo+x-(q+1)))/2)):=g.rev (by lia) (by lia) rfl
       have d2:Dn lt (dR xs (lo+x-(q+1)) (lo+x) ((lo+x-(lo+x-(q+1)))/2)) lo (lo+x):=hd.eqs (by lia) he (by lia) rfl
       refine aC (cX (aE ⟨_,0,rfl,rfl,by lia,by lia,g2,Dn.more o (i:=lo) (j:=lo+x) (λp G=>D g2 p (by lia)) d2 (by lia) ?_,one _ g2⟩))
       have rv:=bQh (xs:=xs) (i:=lo+x-(q+1)) (j:=lo+x) (by lia)
       rw[rv,rv,if_pos ⟨by lia,by lia⟩,if_neg (by lia)]
       exact o.tr (at0 xs (lo+x)) (at0 xs (lo+x-1)) _ (D g _ (by lia)) (D g _ (by lia)) (D g _ (by lia)) e2 (he _ _ (by lia) (by lia) (by lia) (by lia))
      ·rw[if_neg U];exact aE ⟨xs,0,rfl,rfl,by lia,by lia,g,Dn.more o (i:=lo) (j:=lo+x) (λp G=>D g p (by lia)) hd (by lia) e2,one _ g⟩
     |false =>
      rw[if_neg (by simp)]
      refine aC (aZi o (i:=lo+x-1) (j:=lo+x) hk PA g (by lia) (by lia) ?_)
      dsimp only;cases e2:lt (at0 xs (lo+x-1)) (at0 xs (lo+x)) with
      |true=>rw[if_pos rfl];exact aE ⟨xs,x,q,rfl,rfl,by lia,by lia,Y,g,hd,he⟩
      |false =>
       rw[if_neg (by simp)]
       refine aE ⟨xs,q+1,rfl,rfl,by lia,by lia,g,Dn.more o (i:=lo) (j:=lo+x) (λp G=>D g p (by lia)) hd (by lia) e2,λp r h1 h2 Z h4=>?_⟩
       have pp:∀p,p<=lo+x->P (at0 xs p):=λp G=>D g p (by lia)
       have low:∀p,lo+x-(q+1)<=p->p<lo+x->lt (at0 xs p) (at0 xs (lo+x))=false/\lt (at0 xs (lo+x)) (at0 xs p)=false:=λp a1 a2=>by
        have b1:=he p (lo+x-1) a1 a2 (by lia) (by lia)
        have b2:=he (lo+x-1) p (by lia) (by lia) a1 a2
        exact⟨o.tr _ _ _ (pp _ (by lia)) (pp _ (by lia)) (pp _ (by lia)) e2 b1,o.tr _ _ _ (pp _ (by lia)) (pp _ (by lia)) (pp _ (by lia)) b2 e⟩
       by_cases z1:p=lo+x
       ·by_cases z2:r=lo+x
        ·rw[z1,z2];exact irr o (pp _ (by lia))
        ·rw[z1];exact(low r (by lia) (by lia)).2
       ·by_cases z2:r=lo+x
        ·rw[z2];exact(low p (by lia) (by lia)).1
        ·exact he p r (by lia) (by lia) (by lia) (by lia)
    ·rintro c d ⟨xs,q,rfl,rfl,x2,Y,g,hd,he⟩;exact⟨xs,_,q,rfl,rfl,by lia,by lia,Y,g,by rwa [show max (n+1) nrem=nrem by lia] at hd ⊢,he⟩
    ·rintro c d ⟨xs,n,q,rfl,rfl,L,J,Y,g,hd,he⟩;have hxs:xs.size=(aU st).size:=g.size;dsimp only
     by_cases U:q>0
     ·rw[if_pos U,dF,dF];have g2:Gd lo (aU st) (dR xs (lo+n-(q+1)) (lo+n) ((lo+n-(lo+n-(q+1)))/2)):=g.rev (by lia) (by lia) rfl
      have d2:Dn lt (dR xs (lo+n-(q+1)) (lo+n) ((lo+n-(lo+n-(q+1)))/2)) lo (lo+n):=hd.eqs (by lia) he (by lia) rfl
      have s2:=g2.size;have g3:=g2.rev (i:=lo) (j:=lo+n) (Nat.le_refl _) (by lia) rfl
      have O:=d2.rev (i:=lo) (j:=lo+n) (by lia) rfl
      refine aC (cX (aC (cX ?_)));change wpS _ _ _ _ _ _ (cV st (dR (dR xs (lo + n - (q + 1)) (lo + n) ((lo + n - (lo + n - (q + 1))) / 2)) lo (lo + n) ((lo + n - lo) / 2)));generalize dR (dR xs (lo + n - (q + 1)) (lo + n) ((lo + n - (lo + n - (q + 1))) / 2)) lo (lo + n) ((lo + n - lo) / 2)=zs at g3 O ⊢;refine aC (dE (bX (I:=λx c d=>d=cV st zs/\c=(none,x)/\n<=x/\Up lt (zs) lo (lo + x))
       (Q:=λc d=>d=cV st zs/\∃n,c=(none,n)/\1<=n/\n<=nrem/\Up lt (zs) lo (lo+n)) ?_ ?_ ⟨rfl,rfl,Nat.le_refl _,O⟩) ?_)
      ·rintro x c d _ hx ⟨rfl,rfl,h1,B⟩;dsimp only;refine aC (aZi o (i:=lo+x) (j:=lo+x-1) hk PA g3 (by lia) (by lia) ?_)
       dsimp only;cases e:lt (at0 (zs) (lo+x)) (at0 (zs) (lo+x-1)) with
       |true=>rw[if_pos rfl];exact aE ⟨rfl,x,rfl,by lia,by lia,B⟩
       |false=>rw[if_neg (by simp)];exact aE ⟨rfl,rfl,by lia,Up.more o (i:=lo) (j:=lo+x) (λp G=>D g3 p (by lia)) B (by lia) e⟩
      ·rintro c d ⟨rfl,rfl,h1,B⟩;exact⟨rfl,_,rfl,by lia,by lia,B⟩
      ·rintro c d ⟨rfl,n,rfl,L,J,B⟩;exact aE (h n (zs) L J g3 B)
     ·rw[if_neg U,dF];have g3:=g.rev (i:=lo) (j:=lo+n) (Nat.le_refl _) (by lia) rfl
      have O:=hd.rev (i:=lo) (j:=lo+n) (by lia) rfl
      refine aC (cX ?_);change wpS _ _ _ _ _ _ (cV st (dR xs lo (lo + n) ((lo + n - lo) / 2)));generalize dR xs lo (lo + n) ((lo + n - lo) / 2)=zs at g3 O ⊢;refine aC (dE (bX (I:=λx c d=>d=cV st zs/\c=(none,x)/\n<=x/\Up lt (zs) lo (lo + x))
       (Q:=λc d=>d=cV st zs/\∃n,c=(none,n)/\1<=n/\n<=nrem/\Up lt (zs) lo (lo+n)) ?_ ?_ ⟨rfl,rfl,Nat.le_refl _,O⟩) ?_)
      ·rintro x c d _ hx ⟨rfl,rfl,h1,B⟩;dsimp only;refine aC (aZi o (i:=lo+x) (j:=lo+x-1) hk PA g3 (by lia) (by lia) ?_)
       dsimp only;cases e:lt (at0 (zs) (lo+x)) (at0 (zs) (lo+x-1)) with
       |true=>rw[if_pos rfl];exact aE ⟨rfl,x,rfl,by lia,by lia,B⟩
       |false=>rw[if_neg (by simp)];exact aE ⟨rfl,rfl,by lia,Up.more o (i:=lo) (j:=lo+x) (λp G=>D g3 p (by lia)) B (by lia) e⟩
      ·rintro c d ⟨rfl,rfl,h1,B⟩;exact⟨rfl,_,rfl,by lia,by lia,B⟩
      ·rintro c d ⟨rfl,n,rfl,L,J,B⟩;exact aE (h n (zs) L J g3 B)
  ·rw[if_neg cn];have e1:n=1:=by lia
   subst e1;have hd:Dn lt (aU st) lo (lo+(1+1)):=λp q h1 h2 Z=>by
    have ep:p=lo:=by lia
    have eq:q=lo+1:=by lia
    rw[ep,eq];exact hle
   have J:=c0';have g:=g0;refine aC (i6 (db ⟨rfl,?_⟩));refine aC (dE (bX (I:=λx c d=>∃ xs q,d=cV st xs/\c=(none,x,q)/\2<=x/\q + 1<=x/\Gd lo (aU st) xs/\Dn lt xs lo (lo + x)/\Eqs lt xs (lo + x - (q + 1)) (lo + x))
    (Q:=λc d=>∃ xs n q,d=cV st xs/\c=(none,n,q)/\1<=n/\n<=nrem/\q + 1<=n/\Gd lo (aU st) xs/\Dn lt xs lo (lo + n)/\Eqs lt xs (lo + n - (q + 1)) (lo + n)) ?_ ?_ ⟨aU st,0,rfl,rfl,by lia,by lia,g,hd,λp q h1 h2 Z h4=>by
     have:p=q:=by lia
     subst this;exact irr o (D g p (by lia))⟩) ?_)
   ·rintro x c d _ hx ⟨xs,q,rfl,rfl,x2,Y,g,hd,he⟩;have hxs:xs.size=(aU st).size:=g.size;dsimp only;refine aC (aZi o (i:=lo+x) (j:=lo+x-1) hk PA g (by lia) (by lia) ?_)
    dsimp only;cases e:lt (at0 xs (lo+x)) (at0 xs (lo+x-1)) with
    |true =>
     rw[if_pos rfl];have e2:=o.as _ _ (D g _ (by lia)) (D g _ (by lia)) e
     have one:∀ys,Gd lo (aU st) ys->Eqs lt ys (lo+(x+1)-(0+1)) (lo+(x+1)):=λys g' p q h1 h2 Z h4=>by
      have:p=q:=by lia
      subst this;exact irr o (D g' p (by lia))
     by_cases U:q>0
     ·rw[if_pos U,dF];have hd2:(lo+x-(lo+x-(q+1)))/2=(lo+x-(lo+x-(q+1)))/2:=rfl;have g2:Gd lo (aU st) (dR xs (lo+x-(q+1)) (lo+x) ((lo+x-(lo+x-(q+1)))/2)):=g.rev (by lia) (by lia) rfl
      have d2:Dn lt (dR xs (lo+x-(q+1)) (lo+x) ((lo+x-(lo+x-(q+1)))/2)) lo (lo+x):=hd.eqs (by lia) he (by lia) rfl
      refine aC (cX (aE ⟨_,0,rfl,rfl,by lia,by lia,g2,Dn.more o (i:=lo) (j:=lo+x) (λp G=>D g2 p (by lia)) d2 (by lia) ?_,one _ g2⟩))
      have rv:=bQh (xs:=xs) (i:=lo+x-(q+1)) (j:=lo+x) (by lia)
      rw[rv,rv,if_pos ⟨by lia,by lia⟩,if_neg (by lia)]
      exact o.tr (at0 xs (lo+x)) (at0 xs (lo+x-1)) _ (D g _ (by lia)) (D g _ (by lia)) (D g _ (by lia)) e2 (he _ _ (by lia) (by lia) (by lia) (by lia))
     ·rw[if_neg U];exact aE ⟨xs,0,rfl,rfl,by lia,by lia,g,Dn.more o (i:=lo) (j:=lo+x) (λp G=>D g p (by lia)) hd (by lia) e2,one _ g⟩
    |false =>
     rw[if_neg (by simp)]
     refine aC (aZi o (i:=lo+x-1) (j:=lo+x) hk PA g (by lia) (by lia) ?_)
     dsimp only;cases e2:lt (at0 xs (lo+x-1)) (at0 xs (lo+x)) with
     |true=>rw[if_pos rfl];exact aE ⟨xs,x,q,rfl,rfl,by lia,by lia,Y,g,hd,he⟩
     |false =>
      rw[if_neg (by simp)]
      refine aE ⟨xs,q+1,rfl,rfl,by lia,by lia,g,Dn.more o (i:=lo) (j:=lo+x) (λp G=>D g p (by lia)) hd (by lia) e2,λp r h1 h2 Z h4=>?_⟩
      have pp:∀p,p<=lo+x->P (at0 xs p):=λp G=>D g p (by lia)
      have low:∀p,lo+x-(q+1)<=p->p<lo+x->lt (at0 xs p) (at0 xs (lo+x))=false/\lt (at0 xs (lo+x)) (at0 xs p)=false:=λp a1 a2=>by
       have b1:=he p (lo+x-1) a1 a2 (by lia) (by lia)
       have b2:=he (lo+x-1) p (by lia) (by lia) a1 a2
       exact⟨o.tr _ _ _ (pp _ (by lia)) (pp _ (by lia)) (pp _ (by lia)) e2 b1,o.tr _ _ _ (pp _ (by lia)) (pp _ (by lia)) (pp _ (by lia)) b2 e⟩
      by_cases z1:p=lo+x
      ·by_cases z2:r=lo+x
       ·rw[z1,z2];exact irr o (pp _ (by lia))
       ·rw[z1];exact(low r (by lia) (by lia)).2
      ·by_cases z2:r=lo+x
       ·rw[z2];exact(low p (by lia) (by lia)).1
       ·exact he p r (by lia) (by lia) (by lia) (by lia)
   ·rintro c d ⟨xs,q,rfl,rfl,x2,Y,g,hd,he⟩;exact⟨xs,_,q,rfl,rfl,by lia,by lia,Y,g,by rwa [show max (1+1) nrem=nrem by lia] at hd ⊢,he⟩
   ·rintro c d ⟨xs,n,q,rfl,rfl,L,J,Y,g,hd,he⟩;have hxs:xs.size=(aU st).size:=g.size;dsimp only
    by_cases U:q>0
    ·rw[if_pos U,dF,dF];have g2:Gd lo (aU st) (dR xs (lo+n-(q+1)) (lo+n) ((lo+n-(lo+n-(q+1)))/2)):=g.rev (by lia) (by lia) rfl
     have d2:Dn lt (dR xs (lo+n-(q+1)) (lo+n) ((lo+n-(lo+n-(q+1)))/2)) lo (lo+n):=hd.eqs (by lia) he (by lia) rfl
     have s2:=g2.size;have g3:=g2.rev (i:=lo) (j:=lo+n) (Nat.le_refl _) (by lia) rfl
     have O:=d2.rev (i:=lo) (j:=lo+n) (by lia) rfl
     refine aC (cX (aC (cX ?_)));change wpS _ _ _ _ _ _ (cV st (dR (dR xs (lo + n - (q + 1)) (lo + n) ((lo + n - (lo + n - (q + 1))) / 2)) lo (lo + n) ((lo + n - lo) / 2)));generalize dR (dR xs (lo + n - (q + 1)) (lo + n) ((lo + n - (lo + n - (q + 1))) / 2)) lo (lo + n) ((lo + n - lo) / 2)=zs at g3 O ⊢;refine aC (dE (bX (I:=λx c d=>d=cV st zs/\c=(none,x)/\n<=x/\Up lt (zs) lo (lo + x))
      (Q:=λc d=>d=cV st zs/\∃n,c=(none,n)/\1<=n/\n<=nrem/\Up lt (zs) lo (lo+n)) ?_ ?_ ⟨rfl,rfl,Nat.le_refl _,O⟩) ?_)
     ·rintro x c d _ hx ⟨rfl,rfl,h1,B⟩;dsimp only;refine aC (aZi o (i:=lo+x) (j:=lo+x-1) hk PA g3 (by lia) (by lia) ?_)
      dsimp only;cases e:lt (at0 (zs) (lo+x)) (at0 (zs) (lo+x-1)) with
      |true=>rw[if_pos rfl];exact aE ⟨rfl,x,rfl,by lia,by lia,B⟩
      |false=>rw[if_neg (by simp)];exact aE ⟨rfl,rfl,by lia,Up.more o (i:=lo) (j:=lo+x) (λp G=>D g3 p (by lia)) B (by lia) e⟩
     ·rintro c d ⟨rfl,rfl,h1,B⟩;exact⟨rfl,_,rfl,by lia,by lia,B⟩
     ·rintro c d ⟨rfl,n,rfl,L,J,B⟩;exact aE (h n (zs) L J g3 B)
    ·rw[if_neg U,dF];have g3:=g.rev (i:=lo) (j:=lo+n) (Nat.le_refl _) (by lia) rfl
     have O:=hd.rev (i:=lo) (j:=lo+n) (by lia) rfl
     refine aC (cX ?_);change wpS _ _ _ _ _ _ (cV st (dR xs lo (lo + n) ((lo + n - lo) / 2)));generalize dR xs lo (lo + n) ((lo + n - lo) / 2)=zs at g3 O ⊢;refine aC (dE (bX (I:=λx c d=>d=cV st zs/\c=(none,x)/\n<=x/\Up lt (zs) lo (lo + x))
      (Q:=λc d=>d=cV st zs/\∃n,c=(none,n)/\1<=n/\n<=nrem/\Up lt (zs) lo (lo+n)) ?_ ?_ ⟨rfl,rfl,Nat.le_refl _,O⟩) ?_)
     ·rintro x c d _ hx ⟨rfl,rfl,h1,B⟩;dsimp only;refine aC (aZi o (i:=lo+x) (j:=lo+x-1) hk PA g3 (by lia) (by lia) ?_)
      dsimp only;cases e:lt (at0 (zs) (lo+x)) (at0 (zs) (lo+x-1)) with
      |true=>rw[if_pos rfl];exact aE ⟨rfl,x,rfl,by lia,by lia,B⟩
      |false=>rw[if_neg (by simp)];exact aE ⟨rfl,rfl,by lia,Up.more o (i:=lo) (j:=lo+x) (λp G=>D g3 p (by lia)) B (by lia) e⟩
     ·rintro c d ⟨rfl,rfl,h1,B⟩;exact⟨rfl,_,rfl,by lia,by lia,B⟩
     ·rintro c d ⟨rfl,n,rfl,L,J,B⟩;exact aE (h n (zs) L J g3 B)
end
theorem bub_at{xs:Array aO}{src d:Nat}(hs:src<xs.size)(hd:d<=src)(k:Nat) :
  at0 (bubble xs src d) k=if k=src-d then at0 xs src else if src-d<k/\k<=src then at0 xs (k-1) else at0 xs k:=by
 have e:=getElem?_bubble hs d hd k
 by_cases h1:k=src-d
 ·rw[if_pos h1] at e ⊢;exact cJd e
 ·rw[if_neg h1] at e ⊢
  by_cases h2:src-d<k/\k<=src
  ·rw[if_pos h2] at e ⊢;exact cJd e
  ·rw[if_neg h2] at e ⊢;exact cJd e
section
variable{prog:aD}{w:aR}{A:bi}{E:ad->aj->Prop}{s:aj}{κ:fg}{P:aO->Prop}{lt:aO->aO->Bool}{st:cW}{lo:Nat}
theorem fZb(o:Orc prog w A s κ P lt){n ok:Nat}{Q:Bool->cW->Prop}(hk:kindOf st=κ)(PA:∀x∈(aU st).toList,P x)(hs:lo+n<=(aU st).size)(hok:ok<=n)(hu:Up lt (aU st) lo (lo+ok))
  (h:∀xs,Gd lo (aU st) xs->Up lt xs lo (lo+n)->Q true (cV st xs)):wpS (aF prog w) A E s (binarySort' lo n ok) Q st:=by
 have pP:∀ {xs},Gd lo (aU st) xs->∀ p,p < (aU st).size->P (at0 xs p):=λg p hp=>(gd_P g PA hp).2;have g0:Gd lo (aU st) (aU st):=⟨j8 _,λ_ _=>rfl⟩;rw[binarySort'_eq];refine aC (dE (bX (I:=λk c B=>∃ xs,B=cV st xs/\c=(none,())/\Gd lo (aU st) xs/\Up lt xs lo (lo + min k n))
  (Q:=λc B=>∃xs,B=cV st xs/\c=(none,())/\Gd lo (aU st) xs/\Up lt xs lo (lo+n)) ?step ?fin ?init) ?post)
 case post =>
  rintro c B ⟨xs,rfl,rfl,g,hu⟩;exact aE (h xs g hu)
 case init =>
  refine⟨aU st,rfl,rfl,g0,λp q h1 h2 h3=>?_⟩
  by_cases z:ok=0
  ·lia
  ·exact hu p q h1 h2 (by lia)
 case fin =>
  rintro c B ⟨xs,rfl,rfl,g,hu⟩;refine⟨xs,rfl,rfl,g,?_⟩;rwa [show min (max (max ok 1) n) n=n by lia] at hu
 case step =>
  rintro k c B hak hkn ⟨xs,rfl,rfl,g,hu⟩;rw[show min k n=k by lia] at hu
  have hxs:xs.size=(aU st).size:=g.size;have pp:∀p,p<lo+n->P (at0 xs p):=λp hp=>pP g p (by lia)
  dsimp only;refine aC (dE (bX (I:=λx c d=>d=cV st xs/\∃ l r,c=(none,l,r)/\l<=r/\r<=k/\r - l<=k - x /\
    (∀i,i<l->lt (at0 xs (lo+k)) (at0 xs (lo+i))=false)/\(∀i,r<=i->i<k->lt (at0 xs (lo+i)) (at0 xs (lo+k))=false))
   (Q:=λc d=>d=cV st xs/\∃ l r,c=(none,l,r)/\l<=k /\
    (∀i,i<l->lt (at0 xs (lo+k)) (at0 xs (lo+i))=false)/\(∀i,l<=i->i<k->lt (at0 xs (lo+i)) (at0 xs (lo+k))=false)) ?istep ?ifin ?iinit) ?ipost)
  case iinit=>exact⟨rfl,0,k,rfl,by lia,by lia,by lia,λi hi=>by lia,λi h1 h2=>by lia⟩
  case ifin =>
   rintro c d ⟨rfl,l,r,rfl,Z,J,hm,D,G⟩
   have:l=r:=by lia
   subst this;exact⟨rfl,l,l,rfl,J,D,G⟩
  case istep =>
   rintro x c d _ hxk ⟨rfl,l,r,rfl,Z,J,hm,D,G⟩;dsimp only
   by_cases Y:l>=r
   ·rw[if_pos Y]
    have:l=r:=by lia
    subst this;exact aE ⟨rfl,l,l,rfl,J,D,G⟩
   ·rw[if_neg Y];refine aC (aZi o hk PA g (i:=lo+k) (j:=lo+(l+r)/2) (by lia) (by lia) ?_)
    dsimp only;cases e:lt (at0 xs (lo+k)) (at0 xs (lo+(l+r)/2)) with
    |true =>
     rw[if_pos rfl];refine aE ⟨rfl,l,(l+r)/2,rfl,by lia,by lia,by lia,D,λi h1 h2=>?_⟩
     have e2:=o.as _ _ (pp _ (by lia)) (pp _ (by lia)) e
     rcases Nat.eq_or_lt_of_le h1 with z|z
     ·rw[<- z];exact e2
     ·exact o.tr _ _ _ (pp _ (by lia)) (pp (lo+(l+r)/2) (by lia)) (pp _ (by lia)) e2 (hu _ _ (by lia) (by lia) (by lia))
    |false =>
     rw[if_neg (by simp)]
     refine aE ⟨rfl,(l+r)/2+1,r,rfl,by lia,by lia,by lia,λi h1=>?_,G⟩
     rcases Nat.eq_or_lt_of_le (show i<=(l+r)/2 by lia) with z|z
     ·rw[z];exact e
     ·exact o.tr _ _ _ (pp _ (by lia)) (pp (lo+(l+r)/2) (by lia)) (pp _ (by lia)) (hu _ _ (by lia) (by lia) (by lia)) e
  case ipost =>
   rintro c d ⟨rfl,l,r,rfl,hlk,D,G⟩;show wpS _ _ _ _ (do moveDown' (lo+k) (lo+l);pure (bF (none,()))) _ _
   rw[moveDown'_eq];have L:lo+k<xs.size:=by lia
   have ed:lo+k-(lo+l)=k-l:=by lia
   refine aC (cX (aE ⟨bubble xs (lo+k) (lo+k-(lo+l)),rfl,rfl,⟨(bubble_perm _ _ _).trans g.1,λi hi=>?_⟩,?_⟩))
   ·rw[getElem?_bubble L _ (by lia),if_neg (by lia),if_neg (by lia)]
    exact g.2 i hi
   ·rw[show min (k+1) n=k+1 by lia]
    intro p q h1 h2 h3;rw[bub_at L (by lia),bub_at L (by lia),show lo+k-(lo+k-(lo+l))=lo+l by lia]
    have O:∀i,lo<=i->i<lo+l->lt (at0 xs (lo+k)) (at0 xs i)=false:=λi a b=>by
     have:=D (i-lo) (by lia)
     rwa [show lo+(i-lo)=i by lia] at this
    have U:∀i,lo+l<=i->i<lo+k->lt (at0 xs i) (at0 xs (lo+k))=false:=λi a b=>by
     have:=G (i-lo) (by lia) (by lia)
     rwa [show lo+(i-lo)=i by lia] at this
    repeat' split
    all_goals first
     |(exfalso;lia)
     |exact O _ (by lia) (by lia)
     |exact U _ (by lia) (by lia)
     |exact hu _ _ (by lia) (by lia) (by lia)
end
def offs:Nat->List (List aO)->List (Nat×Nat)
 |_,[]=>[]
 |k,s::ss=>(k,s.length)::offs (k+s.length) ss
theorem bZq:∀k ss,(offs k ss).length=ss.length
 |_,[]=>rfl
 |k,s::ss=>by simp[offs,bZq]
theorem aJx:∀k (s1 s2:List (List aO)),offs k (s1++s2)=offs k s1++offs (k+s1.flatten.length) s2
 |k,[],s2=>by simp[offs]
 |k,s::s1,s2=>by simp[offs,aJx,Nat.add_assoc]
def sl(x:Nat×Nat×Nat):Nat×Nat:=(x.1,x.2.1)
structure Pn(κ:fg)(P:aO->Prop)(lt:aO->aO->Bool)(a0:List aO)(st:cW)(segs:List (List aO))(rest:List aO):Prop where
 kind:kindOf st=κ
 fl:fM st=none
 arr:(aU st).toList=segs.flatten++rest
 perm:(aU st).toList.Perm a0
 sd:∀sg∈segs,Sd lt sg/\sg≠[]
 pd:(bT st).toList.map sl=offs 0 segs
section
variable{prog:aD}{w:aR}{A:bi}{E:ad->aj->Prop}{s:aj}{κ:fg}{P:aO->Prop}{lt:aO->aO->Bool}{st:cW}{a0 rest:List aO}{segs:List (List aO)}
theorem Pn.psize(h:Pn κ P lt a0 st segs rest):(bT st).size=segs.length:=by
 have:=congrArg fj h.pd
 rwa [ae,bZq,be] at this
theorem Pn.size(h:Pn κ P lt a0 st segs rest):(aU st).size=a0.length:=by rw[<- be];exact h.perm.length_eq
theorem Pn.room(h:Pn κ P lt a0 st segs rest):segs.flatten.length+rest.length=a0.length:=by rw[<- ar,<- h.arr];exact h.perm.length_eq
theorem dJ6(o:Orc prog w A s κ P lt)(PA:∀x∈a0,P x)(h:Pn κ P lt a0 st segs rest){i:Nat}(hi:i+1<segs.length){Q:Bool->cW->Prop}
  (hq:∀st' segs',Pn κ P lt a0 st' segs' rest->segs'.length+1=segs.length->segs'.flatten.length=segs.flatten.length->Q true st'):wpS (aF prog w) A E s (mergeAt' i) Q st:=by
 obtain⟨S1,d,D,J,rfl,rfl⟩:∃S1 d D J,segs=S1++d::D::J/\S1.length=i:=by
  refine⟨segs.take i,segs[i],segs[i+1],segs.drop (i+2),?_,by rw[aK];lia⟩
  rw[<- da hi,<- da (by lia),bQ]
 have G:=h.pd;rw[aJx,Nat.zero_add] at G;obtain⟨p1,p2',Y,e2,e3⟩:=List.map_eq_append_iff.mp G;simp only[offs] at e3;obtain⟨x,Z,rfl,ex,e4⟩:=List.map_eq_cons_iff.mp e3;obtain⟨y,p2,rfl,ey,e5⟩:=List.map_eq_cons_iff.mp e4;have B:p1.length=S1.length:=by rw[<- ae (f:=sl),e2,bZq]
 have g1:(bT st)[S1.length]?=some (S1.flatten.length,d.length,x.2.2):=by
  rw[<- a7,Y,<- B,cf (Nat.le_refl _),Nat.sub_self,jM];obtain⟨x1,x2,x3⟩:=x;cases ex;rfl
 have g2:(bT st)[S1.length+1]?=some (S1.flatten.length+d.length,D.length,y.2.2):=by
  rw[<- a7,Y,<- B,cf (by lia),Nat.add_sub_cancel_left,jD,jM]
  obtain⟨y1,y2,y3⟩:=y;cases ey;rfl
 have O:=h.sd d (by simp)
 have sB:=h.sd D (by simp)
 have hl:(aU st).toList=S1.flatten++(d++(D++(J.flatten++rest))):=by rw[h.arr];simp
 have pm:∀x∈d++D,P x:=λx j=>PA x (h.perm.mem_iff.mp (by rw[hl];simp at j ⊢;grind))
 refine fZ9 o h.kind h.fl g1 g2 rfl hl rfl rfl rfl (dg.mpr O.2) (dg.mpr sB.2) (λx j=>pm x (b7 _ j)) (λx j=>pm x (bm _ j)) O.1 sB.1 λC g xs j hC hp=>?_;have L:=hp.length_eq;rw[ar] at L;refine hq _ (S1++C::J) ⟨rfl,rfl,?_,?_,λsg U=>?_,?_⟩ (by simp only[ar,aT];lia) (by simp;lia)
 ·show xs.toList=_;rw[j];simp
 ·show xs.toList.Perm _;refine List.Perm.trans ?_ h.perm;rw[j,hl];refine dX _ ?_
  have:=eE (J.flatten++rest) hp
  rwa [a6 d] at this
 ·rcases aJ.mp U with z|z
  ·exact h.sd sg (by simp[z])
  ·rcases aA.mp z with rfl|z
   ·exact⟨hC,λe=>by
     have:=dg.mpr O.2
     rw[e] at L;simp at L;lia⟩
   ·exact h.sd sg (by simp[z])
 ·show(((bT st).setIfInBounds S1.length (S1.flatten.length,d.length+D.length,x.2.2)).eraseIdxIfInBounds (S1.length+1)).toList.map sl=_;rw[Array.toList_eraseIdxIfInBounds,i7,Y,<- B,List.set_append_right _ _ (Nat.le_refl _),Nat.sub_self,List.set_cons_zero,List.eraseIdx_append_of_length_le (by lia),Nat.add_sub_cancel_left,List.eraseIdx_cons_succ,List.eraseIdx_cons_zero,aW,bd,e2,e5,aJx]
  simp[offs,sl,L,Nat.add_assoc]
theorem Pn.next(h:Pn κ P lt a0 st segs rest){xs:Array aO}{n:Nat}(hn:1<=n)(hs:segs.flatten.length+n<=a0.length)(g:Gd segs.flatten.length (aU st) xs)(hu:Up lt xs segs.flatten.length (segs.flatten.length+n)) :
  ∃sg rest',sg.length=n/\Sd lt sg/\sg≠[]/\Pn κ P lt a0 (cV st xs) segs (sg++rest'):=by
 have L:xs.toList.length=a0.length:=by rw[be,g.size,h.size]
 have D:xs.toList.take segs.flatten.length=segs.flatten:=by
  have:(aU st).toList.take segs.flatten.length=segs.flatten:=by rw[h.arr,d9 (Nat.le_refl _),bR]
  rw[<- this];refine gM λi=>?_;rw[List.getElem?_take,List.getElem?_take,this]
  split
  ·next hi=>rw[a7,a7];exact g.2 i hi
  ·rfl
 refine⟨(xs.toList.drop segs.flatten.length).take n,(xs.toList.drop segs.flatten.length).drop n,by rw[aK,bf];lia,?_,λe=>?_,h.kind,h.fl,?_,?_,h.sd,h.pd⟩
 ·refine bZ.mpr λi j hi G J=>?_;rw[aK,bf] at hi G
  have:=hu (segs.flatten.length+i) (segs.flatten.length+j) (by lia) (by lia) (by lia)
  have B:∀k,segs.flatten.length+k<xs.toList.length->∀d,((xs.toList.drop segs.flatten.length).take n)[k]'d=at0 xs (segs.flatten.length+k):=λk h1 d=>by
   rw[gN,gO];unfold at0;rw[<- a7,ag h1]
   rfl
  rw[B i (by lia),B j (by lia)]
  exact this
 ·have:=congrArg fj e
  rw[aK,bf,cZ] at this;lia
 ·show xs.toList=_;rw[bQ]
  conv=>lhs;rw[<- bQ segs.flatten.length xs.toList,D]
 ·exact(cY.mp g.1).trans h.perm
theorem Pn.push{sg rest':List aO}(h:Pn κ P lt a0 st segs (sg++rest'))(hs:Sd lt sg)(hne:sg≠[]){lo n:Nat}(hlo:segs.flatten.length=lo)(hn:sg.length=n):Pn κ P lt a0 (fO st ((bT st).push (lo,n,0))) (segs++[sg]) rest':=by
 subst hlo hn;refine⟨h.kind,h.fl,?_,h.perm,λx d=>?_,?_⟩
 ·show(aU st).toList=_;rw[h.arr];simp
 ·rcases aJ.mp d with z|z
  ·exact h.sd x z
  ·rw[aG.mp z];exact⟨hs,hne⟩
 ·show((bT st).push _).toList.map sl=_;rw[cy,aW,h.pd,aJx];simp[offs,sl]
theorem Pn.repow(h:Pn κ P lt a0 st segs rest)(i pw:Nat):Pn κ P lt a0 (fO st ((bT st).modify i λx=>(x.1,x.2.1,pw))) segs rest:=by
 refine⟨h.kind,h.fl,h.arr,h.perm,h.sd,?_⟩;show((bT st).modify i _).toList.map sl=_;rw[<- h.pd,Array.toList_modify];refine gM λj=>?_;rw[aQ,aQ,List.getElem?_modify]
 by_cases c:i=j
 ·simp only[c,if_true];cases (bT st).toList[j]? <;> rfl
 ·simp only[c,if_false];cases (bT st).toList[j]? <;> rfl
theorem cQs:∀(ss:List (List aO)),(∀sg∈ss,sg≠[])->ss.length<=ss.flatten.length
 |[],_=>Nat.le_refl _
 |s::ss,h=>by
  have:=cQs ss λx d=>h x (.tail _ d)
  have:=dg.mpr (h s (.head _))
  rw[jm,ar,aT];lia
end
section
variable{prog:aD}{w:aR}{A:bi}{E:ad->aj->Prop}{s:aj}{κ:fg}{P:aO->Prop}{lt:aO->aO->Bool}{st:cW}{a0 rest:List aO}{segs:List (List aO)}
theorem eZa(o:Orc prog w A s κ P lt)(PA:∀x∈(aU st).toList,P x)(hk:kindOf st=κ)(hf:fM st=none)(hp:bT st=#[]){Q:Unit->cW->Prop}
  (h:∀st',(aU st').toList.Perm (aU st).toList->fM st'=none->Sd lt (aU st').toList->Q () st'):wpS (aF prog w) A E s sortRuns' Q st:=by
 have h0:Pn κ P lt (aU st).toList st [] (aU st).toList:=⟨hk,hf,rfl,dM _,λ_ J=>absurd J c9,by rw[hp];rfl⟩
 have pA:∀ {st' segs rest},Pn κ P lt (aU st).toList st' segs rest->∀ x∈(aU st').toList,P x:=λI x J=>PA x (I.perm.mem_iff.mp J);rw[sortRuns'_eq];refine aC (iJ ?_);dsimp only;have lz:(aU st).toList.length=(aU st).size:=be;refine aC (dE (bX
  (I:=λx c st'=>∃segs rest,c=(none,segs.flatten.length)/\Pn κ P lt (aU st).toList st' segs rest/\x<=segs.flatten.length)
  (Q:=λc st'=>∃segs,c=(none,segs.flatten.length)/\Pn κ P lt (aU st).toList st' segs []) ?step ?fin ⟨[],_,rfl,h0,Nat.le_refl _⟩) ?post)
 case fin =>
  rintro c st' ⟨segs,rest,rfl,I,J⟩;have r:=I.room;obtain rfl:rest=[]:=bU (by lia)
  exact⟨segs,rfl,I⟩
 case post =>
  rintro c st' ⟨segs,rfl,I⟩;have r:=I.room;rw[cZ] at r;have fl:=cQs segs λsg hsg=>(I.sd sg hsg).2;dsimp only;refine aC (dE (bX (I:=λx c st'=>∃ segs,c=(none,())/\Pn κ P lt (aU st).toList st' segs []/\(segs.length<=1\/segs.length + x<=(aU st).size))
   (Q:=λc st'=>∃segs,c=(none,())/\Pn κ P lt (aU st).toList st' segs []/\segs.length<=1) ?_ ?_ ⟨segs,rfl,I,by lia⟩) ?_)
  ·rintro x c st' _ J ⟨segs,rfl,I,hc⟩;refine aC (iJ ?_);have hps:=I.psize
   by_cases Z:(bT st').size<=1
   ·rw[if_pos Z];exact aE ⟨segs,rfl,I,by lia⟩
   ·rw[if_neg Z];have hi:∀b:Bool,(if b=true then (bT st').size-2-1 else (bT st').size-2)+1<segs.length:=λb=>by split <;> lia
    refine aC (dJ6 o PA I (hi _) λD d Y l2 _=>?_);exact aE ⟨d,rfl,Y,by lia⟩
  ·rintro c st' ⟨segs,rfl,I,hc⟩;exact⟨segs,rfl,I,by lia⟩
  ·rintro c st' ⟨segs,rfl,I,hc⟩;refine aE (h st' I.perm I.fl ?_);rw[I.arr,bD]
   match segs,hc,I with
   |[],_,_=>exact gS
   |[sg],_,I=>rw[eF];exact(I.sd sg (.head _)).1
 case step =>
  rintro x c st' _ J ⟨segs,rest,rfl,I,hxs⟩;have r:=I.room;have sz:=I.size;dsimp only
  by_cases Z:segs.flatten.length>=(aU st).size
  ·rw[if_pos Z];obtain rfl:rest=[]:=bU (by lia)
   exact aE ⟨segs,rfl,I⟩
  rw[if_neg Z];refine aC (fZa o I.kind (pA I) (lo:=segs.flatten.length) (by lia) (by lia) λn xs n1 n2 g hu=>?_)
  dsimp only
  by_cases c2:n<minRun' (aU st).size (aU st).size 0
  rw[if_pos c2];refine aC (i6 (db ⟨rfl,?_⟩));refine aC (fZb o (st:=cV st' xs) I.kind (λx J=>pA I x ((cY.mp g.1).mem_iff.mp J)) (by have:=g.size;show _<=xs.size;lia) (by lia) hu λys g2 hu2=>?_)
  rw[if_neg (by simp)]
  obtain⟨sg,j,ls,hs,G,Y⟩:=I.next (by lia) (by lia) ⟨g2.1.trans g.1,λi hi=>(g2.2 i hi).trans (g.2 i hi)⟩ hu2
  change Pn κ P lt _ (cV (cV st' xs) ys) _ _ at Y
  rotate_left
  rw[if_neg c2];obtain⟨sg,j,ls,hs,G,Y⟩:=I.next n1 (by lia) g hu
  all_goals
   have lp:=dg.mpr G;refine aC (iJ ?_)
   split
   next s1 n1' _ hb =>
    refine aC (dE (bX (I:=λ_ c B=>∃ d,c=(none,())/\Pn κ P lt (aU st).toList B d (sg++j)/\d.flatten.length=segs.flatten.length)
     (Q:=λc B=>∃d,c=(none,())/\Pn κ P lt (aU st).toList B d (sg++j)/\d.flatten.length=segs.flatten.length) ?_ (λ_ _ hh=>hh) ⟨segs,rfl,Y,rfl⟩) ?_)
    ·rintro y c D _ hy ⟨d,rfl,U,O⟩;refine aC (iJ ?_);have hps:=U.psize
     split
     next older he =>
      have hgt:(bT D).size>1:=by
       by_cases z:(bT D).size>1
       ·exact z
       ·rw[if_neg z] at he;cases he
      split
      ·exact aE ⟨d,rfl,U,O⟩
      ·refine aC (dJ6 o PA U (by lia) λst4 L I4 _ l4=>?_)
       exact aE ⟨L,rfl,I4,l4.trans O⟩
     next=>exact aE ⟨d,rfl,U,O⟩
    ·rintro c D ⟨d,rfl,U,O⟩;dsimp only;refine aC (cX (aC (cX (aE ⟨d++[sg],j,?_,(U.repow _ _).push hs G O ls,?_⟩))))
     ·rw[fb,ar,eF,ls,O]
     ·rw[fb,ar,eF,O];lia
   next =>
    refine aC (cX (aE ⟨segs++[sg],j,?_,Y.push hs G rfl ls,?_⟩))
    ·rw[fb,ar,eF,ls]
    ·rw[fb,ar,eF];lia
end
theorem aXc{α:Type}:∀{l:List α}{x y:α},(x,y)∈l.zip l->x=y/\x∈l
 |a::l,x,y,h=>by
  rw[fw] at h;rcases aA.mp h with e|h
  ·cases e;exact⟨rfl,.head _⟩
  ·exact⟨(aXc h).1,.tail _ (aXc h).2⟩
section
variable{prog:aD}{w:aR}{A:bi}{E:ad->aj->Prop}{s:aj}
theorem dZj{α:Type}{R:α->α->Prop}:∀l:List α,l.length<2->l.Pairwise R
 |[],_=>.nil
 |[x],_=>bP _ _
theorem sort_any{a:Addr}{vs:List ad}{n:Nat}{P:iN->aj->Prop}(lt:ad->ad->Bool)(hz:vs.length<=sizeLine)(ho:s.heap.get? a=some (bV "list" vs.toArray n))
  (H:∀h2:bj,(∀b o,b≠a->s.heap.get? b=some o->h2.get? b=some o)->2<=vs.length->∀(Q:fg->aj->Prop),(∀κ,Orc prog w A {s with heap:=h2} κ (λx=>x.1∈vs) (λx y=>lt x.1 y.1)->Q κ {s with heap:=h2})->aH (aF prog w) A (keyKind' vs.toArray) Q E {s with heap:=h2})
  (h:∀xs:Array aO,xs.Perm (io vs)->xs.toList.Pairwise (λx y=>lt y.1 x.1=false)->P (.done (.ret .none)) {s with heap:=hW s.heap a vs (xs.map (·.2))}) :
  aH (aF prog w) A (cI.«list.sort» ⟨[.ref a],[]⟩) P E s:=by
 rw[list_sort_plain];have Z:a<s.heap.objs.size:=aB ho;refine aa (listItems_at ho rfl ?_);refine aa (listUpdate_at ho rfl ?_ (by rw[aq];exact hz) (Nat.zero_le _))
 obtain⟨D,j⟩:∃D,(s.heap.update a (bO λ_=>#[])).get? a=some (bV "list" #[] D):=⟨_,eS ho (λ_=>#[])⟩;refine aa (seqEpoch_at j rfl ?_);refine aa (wpAny_newTuple ?_ (by show vs.length<=_;exact hz))
 refine aa (jv ?_ (Nat.zero_le _));refine bG ?_;have J:=cr s.heap a (bO λ_=>(#[]:Array ad));have i:(((s.heap.update a (bO λ_=>#[])).push (bV "tuple" vs.toArray 0)).push (bV "list" #[] 0)).get? a=some (bV "list" #[] D):=ah _ (ah _ j);have kp:∀b o,b≠a->s.heap.get? b=some o->(((s.heap.update a (bO λ_=>#[])).push (bV "tuple" vs.toArray 0)).push (bV "list" #[] 0)).get? b=some o:=λb o U e=>ah _ (ah _ ((J.2 b U).trans e));show aH (aF prog w) A _ P E {s with heap:=((s.heap.update a (bO λ_=>#[])).push (bV "tuple" vs.toArray 0)).push (bV "list" #[] 0)}
 dsimp only;have B:(io vs).size=vs.length:=pairsOf_size vs
 by_cases h2:vs.toArray.size<2
 ·rw[if_pos h2,if_pos h2];refine aa (af ?_);rw[StateT.run_pure];refine aa (af ?_);dsimp only;refine aa (seqEpoch_at i rfl ?_);refine aa (listUpdate_at i rfl ?_ (Nat.zero_le _) (by rw[kh];show(io vs).size<=_;rw[B];exact Nat.le_succ_of_le hz))
  simp only[bne_self_eq_false,aS,if_false];refine af (h (io vs) (j8 _) ?_)
  have:(io vs).toList.length<2:=by rw[be,B];simpa using h2
  exact dZj _ this
 ·rw[if_neg h2,if_neg h2];refine aa (H _ kp (by simpa using h2) _ fun κ o=>?_)
  refine aa (eA (eZa o (st:=i5 κ (vs.toArray.zip vs.toArray) #[] 7 none) (Q:=λ_ d=>(aU d).toList.Perm (io vs).toList/\fM d=none/\Sd (λx y:aO=>lt x.1 y.1) (aU d).toList)
   (λx L=>(aXc (x:=x.1) (y:=x.2) (by rw[<- i8];exact L)).2) rfl rfl rfl λd a1 a2 Y=>⟨a1,a2,Y⟩) ?_ λ_ _ e=>e)
  rintro⟨⟨⟩,d⟩ s' ⟨rfl,G,hf,O⟩;dsimp only;refine aa (seqEpoch_at i rfl ?_);refine aa (listUpdate_at i rfl ?_ (Nat.zero_le _) (by rw[kh,<- be,G.length_eq,be,B];exact Nat.le_succ_of_le hz))
  rw[hf];simp only[bne_self_eq_false,aS,if_false];exact af (h _ (cY.mpr G) O)
theorem treeK{κ:KeyKind}(hO:κ.OneLt){a:Addr}{vs:List ad}{n:Nat}{P:iN->aj->Prop}(ho:s.heap.get? a=some (bV "list" vs.toArray n))
  (h0:KeysOf κ (io vs)) (hkk:∀v₁ v₂ rest,vs=v₁::v₂::rest->keyKind' (v₁::v₂::rest).toArray=pure oneType') (hz:vs.length<=sizeLine)
  (h:∀st':cW,(aU st').Perm (io vs)->SortedToK κ (aU st') (io vs).size->P (.done (.ret .none)) {s with heap:=hW s.heap a vs ((aU st').map (·.2))}) :
  aH (aF prog w) A (cI.«list.sort» ⟨[.ref a],[]⟩) P E s:=by
 have key:∀ v∈vs,∃ x,κ.keyOf v=some x:=λv hv=>h0 (v,v) (by
  rw[i8];obtain⟨i,hi,e⟩:=bn hv;exact List.mem_iff_getElem.mpr ⟨i,by simpa using hi,by simp[e]⟩)
 refine sort_any (λu v=>κ.blt ((κ.keyOf u).getD κ.dflt) ((κ.keyOf v).getD κ.dflt)) hz ho (λh2 kp L Q hq=>?_) λxs B hs=>h (i5 oneType' xs #[] 7 none) B λi j J hj=>?_
 ·obtain⟨v₁,v₂,rest,rfl⟩:∃v₁ v₂ rest,vs=v₁::v₂::rest:=by
   match vs,L with
   |v₁::v₂::rest,_=>exact⟨v₁,v₂,rest,rfl⟩
  rw[hkk _ _ _ rfl];refine af (hq _ ⟨λx y Q Z Y q=>?_,λx y _ _ e=>KeyOrd.klt_asymm e,λx y z _ _ _ e1 e2=>KeyOrd.kle_trans e1 e2⟩);obtain⟨p,B⟩:=key _ Z;obtain⟨U,d⟩:=key _ Y;rw[keyLt'_oneType];refine hO _ _ _ _ _ _ _ p U B d ?_;rw[B,d] at q;exact q
 ·show κ.kle (KK κ xs i) (KK κ xs j);rcases Nat.eq_or_lt_of_le J with rfl|D
  ·exact KeyOrd.kle_refl _
  ·have sz:=B.size_eq;have O:∀k (G:k<xs.size),KK κ xs k=(κ.keyOf (xs.toList[k]'(by simpa using G)).1).getD κ.dflt:=λk G=>by
    unfold KK;rw[<- a7,ag (by simpa using G)]
   rw[O i (by lia),O j (by lia)]
   exact bZ.mp hs i j (by simp;lia) (by simp;lia) D
def iv:ad->Int
 |.int n _=>n
 |_=>0
theorem treeI{a:Addr}{vs:List ad}{ns:List Int}{n:Nat}{P:iN->aj->Prop}(ho:s.heap.get? a=some (bV "list" vs.toArray n))(hI:iE vs ns)(hz:vs.length<=sizeLine)
  (h:∀(out:Array ad) (ns':List Int),iE out.toList ns'->ns'.Perm ns->ns'.Pairwise (·<=·)->P (.done (.ret .none)) {s with heap:=hW s.heap a vs out}) :
  aH (aF prog w) A (cI.«list.sort» ⟨[.ref a],[]⟩) P E s:=by
 have key:∀ v∈vs,∃ x t,v=.int x t:=λv hv=>hI.intKeys (v,v) (by
  rw[i8];obtain⟨i,hi,e⟩:=bn hv;exact List.mem_iff_getElem.mpr ⟨i,by simpa using hi,by simp[e]⟩)
 refine sort_any (λu v=>decide (iv u<iv v)) hz ho (λh2 kp U Q hq=>?_) λxs D hs=>?_
 ·obtain⟨B,d,rest,rfl⟩:∃B d rest,vs=B::d::rest:=by
   match vs,U with
   |B::d::rest,_=>exact⟨B,d,rest,rfl⟩
  rw[keyKind_ints hI];refine af (hq _ ⟨λx y Q hx Z q=>?_,λx y _ _ e=>by simp at e ⊢;lia,λx y z _ _ _ e1 e2=>by simp at e1 e2 ⊢;lia⟩)
  obtain⟨p,t,D⟩:=key _ hx;obtain⟨p',t',J⟩:=key _ Z;rw[keyLt'_oneType];rw[D,J] at q ⊢;exact oneLt_int q
 ·have sz:=D.size_eq;obtain⟨ns',h1,h2,h3⟩:=sorted_out hI D (λi j O hj=>by
   rcases Nat.eq_or_lt_of_le O with rfl|L
   ·exact jn _
   ·have Y:∀k (G:k<xs.size),K xs k=iv (xs.toList[k]'(by simpa using G)).1:=λk G=>by
     have hm:xs.toList[k]'(by simpa using G)∈(io vs).toList:=(cY.mp D).mem_iff.mp (dD _)
     obtain⟨p,t,e⟩:=hI.intKeys _ hm;unfold K;rw[<- a7,ag (by simpa using G)]
     generalize xs.toList[k]'(by simpa using G)=z at e
     obtain⟨z1,z2⟩:=z;cases e
     rfl
    rw[Y i (by lia),Y j (by lia)]
    have:=bZ.mp hs i j (by simp;lia) (by simp;lia) L
    have:=of_decide_eq_false this
    lia)
  exact h _ ns' h1 h2 h3
end
end SF
set_option maxHeartbeats 1000000
namespace HT
open PySem
theorem ltS_tot{a b:Str}(h:ltS a b=false)(hne:a≠b):ltS b a=true:=by
 unfold ltS at *
 refine decide_eq_true ?_;have h1:=of_decide_eq_false h;refine aX λh2=>hne ?_;have e:a.cps.toList=b.cps.toList:=List.le_antisymm (List.not_lt.mp h2) (List.not_lt.mp h1);cases a;cases b
 congr 1
 exact Array.toList_inj.mp e
theorem ltS_tr{a b c:Str}(h:ltS a b=true)(h':ltS b c=true):ltS a c=true:=decide_eq_true (List.lt_trans (of_decide_eq_true h) (of_decide_eq_true h'))
theorem ltS_ir(a:Str):ltS a a=false:=decide_eq_false (List.lt_irrefl _)
theorem ltS_as{a b:Str}(h:ltS a b=true):ltS b a=false:=decide_eq_false (List.lt_asymm (of_decide_eq_true h))
theorem lexS_tot:∀{a b:List Str},lexS a b=false->a≠b->lexS b a=true
 |[],[],_,h=>absurd rfl h
 |[],_::_,h,_=>by cases h
 |_::_,[],_,_=>rfl
 |x::xs,y::ys,h,d=>by
  rw[lexS_cons] at h ⊢
  by_cases e:x=y
  ·rw[if_pos e] at h;rw[if_pos e.symm];exact lexS_tot h λz=>d (by rw[e,z])
  ·rw[if_neg e] at h;rw[if_neg λz=>e z.symm];exact ltS_tot h e
theorem lexS_as:∀{a b:List Str},lexS a b=true->lexS b a=false
 |[],[],h=>by cases h
 |[],_::_,_=>rfl
 |_::_,[],h=>by cases h
 |x::xs,y::ys,h=>by
  rw[lexS_cons] at h ⊢
  by_cases e:x=y
  ·rw[if_pos e] at h;rw[if_pos e.symm];exact lexS_as h
  ·rw[if_neg e] at h;rw[if_neg (λz=>e z.symm)];exact ltS_as h
theorem lexS_tr:∀{a b c:List Str},lexS a b=true->lexS b c=true->lexS a c=true
 |[],[],_,h,_=>by cases h
 |[],_::_,[],_,h=>by cases h
 |[],_::_,_::_,_,_=>rfl
 |_::_,[],_,h,_=>by cases h
 |_::_,_::_,[],_,h=>by cases h
 |x::xs,y::ys,z::zs,h,h'=>by
  rw[lexS_cons] at h h' ⊢
  by_cases e:x=y
  ·subst e;rw[if_pos rfl] at h
   by_cases d:x=z
   ·rw[if_pos d] at h' ⊢;exact lexS_tr h h'
   ·rw[if_neg d] at h' ⊢;exact h'
  ·rw[if_neg e] at h
   by_cases d:y=z
   ·subst d;rw[if_neg e];exact h
   ·rw[if_neg d] at h';have hxz:=ltS_tr h h'
    have:x≠z:=by rintro rfl;rw[ltS_ir] at hxz;cases hxz
    rw[if_neg this];exact hxz
end HT
namespace KS
open PySem PySem.W PyProof.Rows
theorem paired_idx{α β:Type}{F:α->β->Prop}{l:List α}{m:List β}(p:a9 F l m)(a:α)(b:β):∀(idx:List Nat),(∀i∈idx,i<l.length)->a9 F (idx.map λi=>l.getD i a) (idx.map λi=>m.getD i b)
 |[],_=>.nil
 |i::idx,h=>by
  refine .cons ?_ (paired_idx p a b idx λj B=>h j (am _ B));have hi:=h i ao;obtain⟨y,d,hf⟩:=L2.Paired.get' p (ag hi);show F (l.getD i a) (m.getD i b);rw[ai,ai,d,ag hi];exact hf
theorem TS.keep{h h':bj}{v:ad}{d:List Str}(t:TS h v d)(k:∀b o,h.get? b=some o->o.cls=.type "tuple"->h'.get? b=some o):TS h' v d:=by
 obtain⟨b,items,e,⟨o,j,i,r⟩,p⟩:=t;exact⟨b,items,e,⟨o,k b o j i,i,r⟩,p⟩
section
variable{prog:aD}{w:aR}{A:bi}{E:ad->aj->Prop}{s:aj}
theorem TS.uniq{h:bj}{v:ad}{d d':List Str}(t:TS h v d)(t':TS h v d'):d=d':=by
 obtain⟨b,items,rfl,⟨o,B,O,n,hd⟩,p⟩:=t;obtain⟨Y,i,e,⟨o',ho',j,U,hd'⟩,J⟩:=t';cases e;rw[B] at ho';cases ho';rw[hd] at hd';cases hd';clear hd B O j;have go:∀{l:List ad}{d d':List Str},HT.SAre l d->HT.SAre l d'->d=d':=by
  intro l d d' p
  induction p generalizing d' with
  |nil=>intro q;cases q;rfl
  |cons z _ L =>
   intro q;cases q with
   |cons D G =>
    obtain⟨t,e⟩:=z;obtain⟨t',e'⟩:=D;rw[e] at e';cases e';rw[L G]
 exact go p J
open Classical in
noncomputable def dec(h:bj)(v:ad):List Str:=if e:∃d,TS h v d then e.choose else []
theorem cJe{h:bj}{v:ad}{d:List Str}(t:TS h v d):dec h v=d:=by
 unfold dec;have e:∃d,TS h v d:=⟨d,t⟩;rw[dif_pos e];exact e.choose_spec.uniq t
theorem eZb{a b c:List Str}(h1:HT.lexS b a=false)(h2:HT.lexS c b=false):HT.lexS c a=false:=by
 cases e:HT.lexS c a with
 |false=>rfl
 |true =>
  by_cases z:b=a
  ·subst z;rw[h2] at e;cases e
  ·have:=HT.lexS_tr e (HT.lexS_tot h1 z)
   rw[h2] at this;cases this
theorem dZk{α β:Type}{f:α->β}{l:List β}{k:List β}(h:l.Perm k):∀{m:List α},k=m.map f->∃m':List α,m'.Perm m/\l=m'.map f:=by
 induction h with
 |nil=>exact λe=>⟨_,dM _,e⟩
 |cons x _ L =>
  intro m e;cases m with
  |nil=>cases e
  |cons a m =>
   rw[bd] at e;injection e with i d
   obtain⟨m',p,q⟩:=L d;exact⟨a::m',p.cons a,by rw[bd,q,i]⟩
 |swap x y l =>
  intro m e;cases m with
  |nil=>cases e
  |cons a m =>
   cases m with
   |nil=>simp at e
   |cons b m =>
    rw[bd,bd] at e;injection e with i d
    injection d with d O
    exact⟨b::a::m,.swap _ _ _,by rw[bd,bd,i,d,O]⟩
 |trans p q B j =>
  intro m e;obtain⟨U,G,i⟩:=j e;obtain⟨J,D,d⟩:=B i;exact⟨J,D.trans G,d⟩
theorem cJf{α:Type}(l:List α)(d:α):((aI l.length).map λi=>l.getD i d)=l:=by
 apply hX
 ·simp
 ·intro i h1 h2;simp only[hZ,List.getElem_range,ai];rw[ag h2]
  rfl
theorem sort_tupsL{a:Addr}{vs:List ad}{ds:List (List Str)}{n:Nat}{P:iN->aj->Prop}(hu:A.units<cQ)(ho:s.heap.get? a=some (bV "list" vs.toArray n))(hp:a9 (TS s.heap) vs ds)(hz:vs.length<=sizeLine)
  (h:∀ (idx:List Nat) (h':bj) (c:Nat),idx.Perm (aI vs.length)->(idx.map λi=>ds.getD i []).Pairwise (λa b=>HT.lexS b a=false)->(idx.map λi=>ds.getD i []).Perm ds->h'.get? a=some (bV "list" (idx.map λi=>vs.getD i cC).toArray c) ->
   (∀b o,b≠a->s.heap.get? b=some o->h'.get? b=some o)->P (.done (.ret .none)) {s with heap:=h'}) :
  aH (aF prog w) A (cI.«list.sort» ⟨[.ref a],[]⟩) P E s:=by
 have hl:vs.length=ds.length:=cq hp;have at_:∀i,i<vs.length->TS s.heap (vs.getD i cC) (ds.getD i []):=λk hk=>by
  obtain⟨d,hd,t⟩:=L2.Paired.get' hp (ag hk);rw[ai,ai,hd,ag hk];exact t
 have B:∀v∈vs,TS s.heap v (dec s.heap v):=λv hv=>by
  obtain⟨i,hi,e⟩:=bn hv
  have:=at_ i hi
  rw[ai,ag hi] at this;have J:TS s.heap v (ds.getD i []):=by rw[<- e];exact this
  rw[cJe J];exact J
 refine SF.sort_any (λu v=>HT.lexS (dec s.heap u) (dec s.heap v)) hz ho (λh2 kp h2l Q hq=>?_) λxs O hs=>?_
 ·have kt:∀ b o,s.heap.get? b=some o->o.cls=.type "tuple"->h2.get? b=some o:=λb o e c=>kp b o (by
   rintro rfl;rw[ho] at e;have e':=aN e;rw[<- e'] at c;have c':dH "list"=dH "tuple":=c;injection c' with c''
   exact absurd c'' (by decide)) e
  have U:a9 (TS h2) vs ds:=L2.Paired.imp (λv d t=>t.keep kt) hp;refine eZ8 (s:={s with heap:=h2}) U (by rintro rfl;simp at h2l) fun κ hκ=>hq κ ⟨λx y Q O hy q=>?_,λx y _ _ e=>HT.lexS_as e,λx y z _ _ _ D J=>eZb D J⟩
  have t1:=(B _ O).keep kt;have t2:=(B _ hy).keep kt;rcases hκ with rfl|rfl|rfl
  ·exact cJa (s:={s with heap:=h2}) t1 t2 q
  ·exact cZy (s:={s with heap:=h2}) hu t1 t2 q
  ·exact fZ2 (s:={s with heap:=h2}) hu t1 t2 q
 ·have pl:xs.toList.Perm (io vs).toList:=cY.mp O;obtain⟨idx,L,D⟩:=dZk (f:=λi=>(vs.getD i cC,vs.getD i cC)) (m:=aI vs.length) pl (by
   rw[i8]
   conv=>lhs;rw[<- cJf vs cC]
   rw[List.zip_map'])
  have G:∀i∈idx,i<vs.length:=λi hi=>bo.mp (L.mem_iff.mp hi);have eo:xs.map (·.2)=(idx.map λi=>vs.getD i cC).toArray:=by
   apply Array.toList_inj.mp;rw[Array.toList_map,D,cg]
   rfl
  rw[eo];rw[D,dj] at hs;have s2:=cr (((s.heap.update a (bO λ_=>(#[]:Array ad))).push (bV "tuple" vs.toArray 0)).push (bV "list" #[] 0)) a (bO λ_=>(idx.map λi=>vs.getD i cC).toArray);obtain⟨J,Y⟩:∃D,(s.heap.update a (bO λ_=>(#[]:Array ad))).get? a=some (bV "list" #[] D):=⟨_,eS ho λ_=>#[]⟩;have sb:=cr s.heap a (bO λ_=>(#[]:Array ad));refine h idx _ _ L ?_ ?_ (eS (ah _ (ah _ Y)) λ_=>_) λb o hb e=>(s2.2 b hb).trans (ah _ (ah _ ((sb.2 b hb).trans e)))
  ·rw[dj];refine hs.imp_of_mem λ{i j} hi hj Z=>?_;have a1:=cJe (at_ i (G i hi));have a2:=cJe (at_ j (G j hj));rw[<- a1,<- a2];exact Z
  ·have:=L.map λi=>ds.getD i []
   rw[hl,cJf] at this;exact this
theorem cJg{l:List (List Str)}(nd:l.Nodup)(h:l.Pairwise λa b=>HT.lexS b a=false):l.Pairwise λa b=>HT.lexS a b=true:=kF (λ⟨h1,h2⟩=>HT.lexS_tot h1 λz=>h2 z.symm) (List.pairwise_and_iff.mpr ⟨h,nd⟩)
theorem sort_tups{a:Addr}{vs:List ad}{ds:List (List Str)}{n:Nat}{P:iN->aj->Prop}(hu:A.units<cQ)(ho:s.heap.get? a=some (bV "list" vs.toArray n))(hp:a9 (TS s.heap) vs ds)(nd:ds.Nodup)(hz:vs.length<=sizeLine)
  (h:∀ (idx:List Nat) (h':bj) (c:Nat),idx.Perm (aI vs.length)->(idx.map λi=>ds.getD i []).Pairwise (λa b=>HT.lexS a b=true)->(idx.map λi=>ds.getD i []).Perm ds->h'.get? a=some (bV "list" (idx.map λi=>vs.getD i cC).toArray c) ->
   (∀b o,b≠a->s.heap.get? b=some o->h'.get? b=some o)->P (.done (.ret .none)) {s with heap:=h'}) :
  aH (aF prog w) A (cI.«list.sort» ⟨[.ref a],[]⟩) P E s:=sort_tupsL hu ho hp hz λidx h' c B j d g k=>h idx h' c B (cJg (d.nodup_iff.mpr nd) j) d g k
end
end KS
namespace ST
open PySem PySem.SetTable PySem.Spec PyProof.Rows
def restr{prog:aD}{w:aR}{κ:Type}(D:SetKd prog w κ)(W:κ->ad->Prop):SetKd prog w κ where
 is:=λh k v=>D.is h k v/\W k v
 I:=λh a es ep t=>D.I h a es ep t/\∀e∈es.toList,∃k,D.is h k e.2/\W k e.2
 inj:=λa b=>D.inj a.1 b.1
 obj:=λx=>D.obj x.1
 fits:=λx=>D.fits x.1
 few:=λx p nd hp=>D.few x.1 (L2.Paired.mapP p λ_ _ q=>q.1) nd hp
 fresh:=λh=>⟨D.fresh h,λe he=>by simp at he⟩
 keepIs:=λx kp=>⟨D.keepIs x.1 kp,x.2⟩
 keepI:=λx e kp=>⟨D.keepI x.1 e kp,λe he=>let ⟨k,h1,h2⟩:=x.2 e he;⟨k,D.keepIs h1 kp,h2⟩⟩
 add:=λ{A E s a es ep t k x Q} hu hI hx hn h=>by
  refine D.add hu hI.1 hx.1 hn λh' tk es' ep' t' added q1 q2 q3 q4 q5=>?_;have kp:=aXs (D.obj hI.1) q2;have up:∀e∈es.toList,∃k,D.is h' k e.2/\W k e.2:=λe he=>let ⟨k,h1,h2⟩:=hI.2 e he;⟨k,D.keepIs h1 kp,h2⟩
  rcases q5 with⟨r1,r2,e,he,r3⟩|⟨r1,⟨hh,r2⟩,r3⟩
  ·obtain⟨k',z1,z2⟩:=hI.2 e he
   have:=D.inj r3 z1
   subst this;exact h h' tk es' ep' t' added ⟨q1,by rw[r2];exact up⟩ q2 q3 q4 (.inl ⟨r1,r2,e,he,r3,z2⟩)
  ·refine h h' tk es' ep' t' added ⟨q1,λe he=>?_⟩ q2 q3 q4 (.inr ⟨r1,⟨hh,r2⟩,λ⟨e,he,z⟩=>r3 ⟨e,he,z.1⟩⟩);rcases aA.mp (r2.mem_iff.mp he) with z|z
   ·subst z;exact⟨k,D.keepIs hx.1 kp,hx.2⟩
   ·exact up e z
end ST
namespace L2
open PySem PySem.Spec PyProof.Rows
def stO(p:Addr)(es:Array (Int×ad))(ep:Nat)(t:aZ):HO:=.ext λh=>h.get? p=some (ST.setOb es ep t)
abbrev PV(K:Fg)(H:Hp):ad->V×List Str->Prop:=λv p=>RelV p.1 v/\dT K dS H p.1 p.2
def dSt(w:aR)(K:Fg):Dn (List (List Str)):=λH v ms=>∃p es ep t ps,v=.ref p/\H p=some (stO p es ep t)/\t.fits es.size=true/\t.led=ST.ledOf w/\(t.plain=true->es.size<=1)/\a9 (PV K H) (es.toList.map (·.2)) ps/\ms=ps.map (·.2)
theorem Inv.drawn{X:Cx}{pins:List (Addr×Obj)}{σ:St}{H:Hp}{s:aj}(I:Inv X pins σ H s)(d:_):Inv X pins σ H {s with drawn:=d} :=
 ⟨I.ok,I.os,I.bare,I.base,I.loc,I.cell,I.free,I.freeC,I.pin,I.hok,I.len⟩
section
variable{X:Cx}
theorem dZl{K:Fg}{H:Hp}{h:bj}{P:aD}{w:aR}:∀{es:List (Int×ad)}{ms:List (List Str)},a9 (λ(e:Int×ad) k=>ST.TK P w h k e.2/\∃x,RelV x e.2/\dT K dS H x k) es ms->∃ps,a9 (PV K H) (es.map (·.2)) ps/\ms=ps.map (·.2)
 |_,_,.nil=>⟨[],.nil,rfl⟩
 |_,_,.cons ⟨_,x,r,d⟩ q=>by
  obtain⟨ps,h1,h2⟩:=dZl q;exact⟨(x,_)::ps,.cons ⟨r,d⟩ h1,by rw[h2];rfl⟩
theorem cJh{P:aD}{w:aR}{pins:List (Addr×Obj)}{σ:St}{H:Hp}{s:aj}(I:Inv X pins σ H s):∀{xs:List V}{us:List ad}{ds:List (List Str)},a9 (dT X.K dS H) xs ds->Vals xs us->a9 (λv k=>ST.TK P w s.heap k v/\∃x,RelV x v/\dT X.K dS H x k) us ds
 |_,_,_,.nil,.nil=>.nil
 |_,_,_,.cons p q,.cons r t=>by
  refine .cons ⟨?_,_,r,p⟩ (cJh I q t);obtain⟨b,ys,rfl,B,pp⟩:=p;cases r;obtain⟨j,i,d,_⟩:=I.tuple B;exact dZe (K:=X.K) pp i d
def fZc(w:aR)(K:Fg):List V->Hp->VK->Prop:=λxs H Q=>∃x ds,xs=[x]/\dL K (dT K dS) H x ds/\ds.length+1<=300/\∀p ms H',Same H H'->ms.Nodup->(∀k,k∈ms↔k∈ds)->dSt w K H' (.ref p) ms->Q (.ref p) H'
theorem cZz{K:Fg}{w:aR}(hu:X.A.units+8<cQ)(hK:X.K=K:=by rfl)(hw:X.w=w:=by rfl)(hc:X.calm=true:=by rfl):CallR X (.type "set") (fZc w K):=by
 subst hK hw;intro pins s σ H xs us Q I r h;obtain⟨x,ds,rfl,⟨a,ys,rfl,U,p⟩,Y,q⟩:=h;obtain⟨u,rfl,rx⟩:=aX9 r;cases rx;obtain⟨O,G,pl,_⟩:=I.list U;refine ST.call_setK (ST.restr (ST.tupKd X.prog X.w) λk v=>∃x,RelV x v/\dT X.K dS H x k) (I.ok.hd hc) hu pl.isList (cJh I p G) (by rw[aq,<- G.length,p.length];exact Y) λh' L ms M _ Z=>?_
 obtain⟨es,B,t,i,d,J⟩:=M.ex;obtain⟨ps,h1,h2⟩:=dZl J;have j:H s.heap.objs.size=none:=I.hok.fresh (Nat.le_refl _);have D:Same H (upd H s.heap.objs.size (stO s.heap.objs.size es B t)):=aQs j;refine⟨.ref s.heap.objs.size,_,I.laid (t':=L) (o:=stO s.heap.objs.size es B t) (λb o e=>Z b o (aB e) e) (Nat.le_refl _) ?_,rfl,q _ _ _ D M.nd M.mem ⟨_,es,B,t,ps,rfl,aQ9,(ST.tupKd X.prog X.w).fits i.1,d,λz=>?_,L2.Paired.imp (λ_ _ z=>⟨z.1,Mo.mo D z.2⟩) h1,h2⟩⟩
 ·refine⟨(ST.tupKd X.prog X.w).obj i.1,⟨_,(ST.tupKd X.prog X.w).obj i.1⟩,λg1 g2 g k=>k _ g⟩
 ·exact(ST.restr (ST.tupKd X.prog X.w) λk v=>∃x,RelV x v/\dT X.K dS H x k).few i J M.nd z
end
section
variable{X:Cx}
theorem fZd{K:Fg}{pins:List (Addr×Obj)}{σ:St}{H:Hp}{s:aj}(I:Inv X pins σ H s)(hK:X.K=K){h':bj}(k:∀b o,s.heap.get? b=some o->h'.get? b=some o):∀{vs:List ad}{ps:List (V×List Str)},a9 (PV K H) vs ps->a9 (KS.TS h') vs (ps.map (·.2))
 |_,_,.nil=>.nil
 |_,_,.cons ⟨r,d⟩ q=>by
  refine .cons ?_ (fZd I hK k q);obtain⟨b,xs,e,j,pp⟩:=d;rw[e] at r;cases r;rw[<- hK] at j;obtain⟨i,B,⟨o,D,z⟩,_⟩:=I.tuple j;exact⟨b,i.toArray,rfl,⟨o,k b o D,z⟩,bQf pp B⟩
theorem cQt:∀(ps:List (V×List Str)) (i:Nat),(ps.map (·.2)).getD i []=(ps.getD i (V.non,[])).2
 |[],i=>by simp
 |p::ps,0=>by simp
 |p::ps,i+1=>by simpa using cQt ps i
theorem bZr{K:Fg}{H:Hp}:∀{vs:List ad}{zs:List (V×List Str)},a9 (PV K H) vs zs->Vals (zs.map (·.1)) vs/\a9 (dT K dS H) (zs.map (·.1)) (zs.map (·.2))
 |_,_,.nil=>⟨.nil,.nil⟩
 |_,_,.cons ⟨r,d⟩ q=>⟨.cons r (bZr q).1,.cons d (bZr q).2⟩
theorem bJq{H:Hp}:∀{xs:List V}{us:List ad}{ds:List Str},a9 (dS H) xs ds->Vals xs us->jo us ds
 |_,_,_,.nil,.nil=>.nil
 |_,_,_,.cons p q,.cons r t=>by
  cases p;obtain⟨k,rfl⟩:=r;exact .cons _ k (bJq q t)
theorem bZs{H:Hp}:∀{us:List ad}{ds:List Str},jo us ds->Vals (ds.map V.str) us/\a9 (dS H) (ds.map V.str) ds
 |_,_,.nil=>⟨.nil,.nil⟩
 |_,_,.cons y t r=>⟨.cons ⟨t,rfl⟩ (bZs (H:=H) r).1,.cons rfl (bZs r).2⟩
theorem dJ7:∀{l:List Str},sortedS l=true->l.Nodup->l.Pairwise λa b=>HT.ltS a b=true
 |[],_,_=>.nil
 |[x],_,_=>bP _ _
 |x::y::l,h,nd=>by
  have h':(!ltCps y.cps.toList x.cps.toList&&risingS y l)=true:=h;rw[aL] at h';have j:=dJ7 (l:=y::l) h'.2 (bS.mp nd).2;have d:HT.ltS x y=true:=by
   have e:HT.ltS y x=false:=by
    have:=h'.1
    rw[dr] at this;rw[ltCps_eq] at this;exact this
   exact HT.ltS_tot e λz=>(bS.mp nd).1 (z▸ao)
  refine bb.mpr ⟨λz i=>?_,j⟩;rcases aA.mp i with rfl|i
  ·exact d
  ·exact HT.ltS_tr d ((bb.mp j).1 z i)
end
end L2
set_option maxHeartbeats 4000000
namespace L2
open PySem PySem.Spec PyProof.Rows
def Itel(K:Fg)(a:Addr):It:=⟨λi H=>∃xs x,SqL K H a xs/\xs[i]?=some x,λi H x H'=>∃p y,H p=none/\x=.ref p/\H'=upd H p (.tup [.int i,y])/\∀xs,SqL K H a xs->xs[i]?=some y,λi H=>∃xs,SqL K H a xs/\xs.length<=i⟩
theorem dZm{P:aD}{w:aR}{K:Fg}{elts:List Expr}{x1:Nat}{pos:Pos}(a it e:Addr)(hei:e≠it)(hae:a≠e)(hai:a≠it):Turn P w K (.Tuple elts x1 pos) (Itel K a) [e,it] e (λi h=>(∃old,IsEnum h e it i old)/\h.IsListIter it a i) where
 mem:=by simp
 obj:=λi h st b j=>by
  obtain⟨⟨old,he⟩,o,L,hc,hd⟩:=st;rcases aA.mp j with rfl|j
  ·exact⟨_,he,λv z=>by cases z⟩
  ·have:=aG.mp j
   subst this;exact⟨o,L,λv z=>by rw[hd] at z;cases z⟩
 keep:=λi h h' st k=>by
  obtain⟨⟨old,he⟩,o,L,r⟩:=st;exact⟨⟨old,k e (by simp) _ he⟩,o,k it (by simp) _ L,r⟩
 item:=by
  intro X hP hw hK hc i pins s σ H E I hf st hg;subst hP hw hK;obtain⟨xs,x,hq,hx⟩:=hg;obtain⟨its,rv,p,hz⟩:=I.list hq;obtain⟨u,hu,ru⟩:=rv.get hx;obtain⟨⟨old,he⟩,D⟩:=st;have hi:i<its.toArray.size:=by
   rcases Nat.lt_or_ge i its.toArray.size with z|z
   ·exact z
   ·rw[aq] at z;rw[bY z] at hu;cases hu
  have hh:X.A.in1.handled=none:=by have:=I.ok.hd hc;simp[this]
  have hT:s.heap.IsList a its.toArray:=p.isList;refine wpAny_pyNext_enum_itemD (Draws.list hh it a hai its.toArray) he ⟨D,hT⟩ hi hei (by simp;exact⟨hei,λz=>hae z.symm⟩) λy h' U hy L hs' hT' hsz hk=>⟨_,rfl,?_⟩
  have hy':y=u:=by
   have:its[i]?=some y:=by simpa using hy
   rw[hu] at this;exact(aN this).symm
  subst hy';refine wpAny_letOwnedTupleGo_enum L λh2 he2 J=>?_;have fe:=hf e (by simp)
  have fi:=hf it (by simp)
  have Y:∀b o,b≠e->b≠it->s.heap.get? b=some o->h2.get? b=some o:=λb o n1 n2 g=>(J.2 b n1).trans (hk b o n1 n2 g);have Z:e<s.heap.objs.size:=aB he;have d:H s.heap.objs.size=none:=I.hok.fresh (Nat.le_refl _);have nT:∀b o,s.heap.get? b=some o->b≠s.heap.objs.size:=λb o g=>Nat.ne_of_lt (aB g);have nH:∀b u,H b=some u->b≠e/\b≠it:=λb u g=>⟨λz=>(by rw[z,fe.1] at g;cases g),λz=>(by rw[z,fi.1] at g;cases g)⟩
  have G:h2.get? s.heap.objs.size=some {cls:=.type "tuple",data:=.seq #[.int i U,y]}:=(J.2 _ (Nat.ne_of_gt Z)).trans hT';have hok:HOk X.prog X.w (upd H s.heap.objs.size (.tup [.int i,x])) h2:=λb ob g=>by
   by_cases j:b=s.heap.objs.size
   ·subst j;rw[aQ9] at g;cases g;refine⟨by rw[bu];show 2<=_;decide,[.int i U,y],.cons ⟨U,rfl⟩ (.cons ru .nil),⟨_,G,rfl,0,rfl⟩,λo e=>by rw[G] at e;cases e;rfl⟩
   ·rw[upd_ne j] at g;refine(I.hok b ob g).stay (λc w' B q=>?_) (λc q=>?_) λc ys q=>?_
    ·rcases B with rfl|B
     ·exact Y _ _ (nH _ _ g).1 (nH _ _ g).2 q
     ·exact Y _ _ (nH _ _ B).1 (nH _ _ B).2 q
    ·rw[upd_ne (aQ8 q d)];exact q
    ·rw[upd_ne (aQ8 q d)];exact q
  have un:Un (frs X.stack) [e,it] H (upd H s.heap.objs.size (.tup [.int i,x])) s.heap h2:=by
   have O:∀{b:Addr},b∉[e,it]->b≠e/\b≠it:=λj=>⟨λz=>j (by simp[z]),λz=>j (by simp[z])⟩
   exact⟨λb o g _ _ j=>Y b o (O j).1 (O j).2 g,λb o g _ _ j=>⟨o.slots,Y b o (O j).1 (O j).2 g⟩,λb o g n _=>by rw[upd_ne (nT b o g)];exact n,λb o g j=>⟨o,Y b o (O j).1 (O j).2 g⟩,
    λb ys g=>by rw[upd_ne (aQ8 g d)];exact g,λb o v g=>by rw[upd_ne (aQ8 g d)];exact g,λb ps g=>⟨#[],by rw[upd_ne (aQ8 g d),g];simp⟩⟩
  have I2:Inv X pins σ (upd H s.heap.objs.size (.tup [.int i,x])) {s with heap:=h2,toks:=U+1}:=I.call' (s':={s with heap:=h2,toks:=U+1}) rfl un hok I.bare λb j=>by
   rcases aA.mp j with rfl|j
   ·exact⟨fe.2.2.2.1,fe.2.1,fe.2.2.2.2.1,fe.2.2.2.2.2⟩
   ·have:=aG.mp j
    subst this;exact⟨fi.2.2.2.1,fi.2.1,fi.2.2.2.2.1,fi.2.2.2.2.2⟩
  refine⟨.ref s.heap.objs.size,_,I2,rfl,⟨_,x,d,rfl,rfl,λys hy=>by rw[I.list_inj hy hq];exact hx⟩,⟨⟨_,by simpa using he2⟩,?_⟩,λb j=>?_⟩
  ·obtain⟨o,g,r⟩:=hs'.1;exact⟨o,(J.2 it (cv hei)).trans g,r⟩
  ·have hb':b<s.heap.objs.size:=by
    rcases aA.mp j with rfl|j
    ·exact Z
    ·have:=aG.mp j
     subst this;obtain⟨o,g,_⟩:=D;exact aB g
   rw[upd_ne (Nat.ne_of_lt hb')];exact(hf b j).1
 done:=by
  intro X hP hw hK hc i pins s σ H E I hf st hg;subst hP hw hK;obtain⟨xs,hq,hx⟩:=hg;obtain⟨its,rv,p,hz⟩:=I.list hq;obtain⟨⟨old,he⟩,D⟩:=st;have hl:=rv.length;have hh:X.A.in1.handled=none:=by have:=I.ok.hd hc;simp[this]
  have hT:s.heap.IsList a its.toArray:=p.isList;obtain⟨f0,f1,f2,f3,f4,f5⟩:=hf it (by simp)
  have hT2:s.TypeIs (.ref e) "enumerate":=⟨_,he,rfl⟩;unfold ff;refine aa (gj (cj (name:=aP "__next__") hT2 F.slot_enumerate_next (b9 F.slot_enumerate_next hT2 F.entry_enumerate_next ?_ (F.args_enumerate_next_1 _))));refine aa (m:=field (.ref e) 2) (cR he rfl (x:=.ref it) rfl (aa (wpAny_nextOf_list_end hh D hT (by simp;lia) λh' x he' hx'=>?_)))
  obtain⟨o,L,B⟩:=hx';refine aa (fT (T:="StopIteration") (b:=true) ⟨o,L,B⟩ iY ?_);exact af ⟨rfl,I.turned (t':=s.toks) (λb o j g=>he' b o j g) f0 f1 f3 f4 f5⟩
 self:=λA i s Q E st h=>by
  obtain⟨⟨old,he⟩,_⟩:=st;exact gR he h
section
variable{X:Cx}
def iEnL(K:Fg)(ta:TA):TI:=fun σ H R=>ta σ H λvs H1=>∃a,vs=[.ref a]/\(∃xs,SqL K H1 a xs)/\R (Itel K a) H1
theorem fZe{e:Expr}{ta:TA}{p pos:Pos}{elts:List Expr}{x1:Nat}{tpos:Pos}(hg:Gl X "enumerate")(hm:X.mg "enumerate"=none)(ha:PA X [e] ta)(hs:au [e] X.env=[(false,eval e X.env)]:=by rfl) :
  PI X (.Tuple elts x1 tpos) (.Call (.Name "enumerate" p) [e] [] pos) (iEnL X.K ta):=by
 intro pins s σ H R I h;refine Call_ (ld_blt I hg hm iF (cT (thn (ha pos pins s σ H _ I h) λus s1 ⟨vs,H1,d,B,D⟩=>?_) hs rfl));obtain⟨a,rfl,⟨xs,J⟩,q⟩:=D;obtain⟨u,rfl,rx⟩:=aX9 B;cases rx;obtain⟨G,O,pl,U⟩:=d.list J;have i:a<s1.heap.objs.size:=by obtain⟨o,e,_⟩:=id pl.isList;exact aB e
 refine call_enumerate_list pl.isList λh' he hi _ L=>gR he ?_;refine⟨s1.heap.objs.size+1,[s1.heap.objs.size+1,s1.heap.objs.size],_,_,H1,rfl,d.kept (t':=s1.toks) L,dZm a s1.heap.objs.size (s1.heap.objs.size+1) (Nat.succ_ne_self _) (Nat.ne_of_lt (Nat.lt_succ_of_lt i)) (Nat.ne_of_lt i),⟨⟨_,he⟩,hi⟩,λb j=>?_,q⟩;rcases aA.mp j with rfl|j
 ·exact d.fpOk (Nat.le_succ _) (d.hok.fresh (Nat.le_succ _))
 ·have:=aG.mp j
  subst this;exact d.fpOk (Nat.le_refl _) (d.hok.fresh (Nat.le_refl _))
theorem eZc{K:Fg}{e:Expr}{ta:TA}{p pos:Pos}{elts:List Expr}{x1:Nat}{tpos:Pos}(hg:Gl X "enumerate")(hm:X.mg "enumerate"=none)(ha:PA X [e] ta)(hs:au [e] X.env=[(false,eval e X.env)]:=by rfl)(hK:X.K=K:=by rfl) :
  PI X (.Tuple elts x1 tpos) (.Call (.Name "enumerate" p) [e] [] pos) (iEnL K ta):=by subst hK;exact fZe hg hm ha hs
end
def cutS(z:Str)(lo hi:Option Int):Str:=if ((b6 lo hi 1 z.length).length==z.length)=true then z else ⟨((b6 lo hi 1 z.length).filterMap (z.cps[·]?)).toArray⟩
def rSlS:V->Option Int->Option Int->Hp->VK->Prop:=λx lo hi H Q=>∃z,x=.str z/\z.length<=1000000/\Q (.str (cutS z lo hi)) H
theorem sl_str{X:Cx}:SlR X rSlS:=by
 intro pins s σ H x v Y U lo hi sl Q I G L pl pu h;obtain⟨z,rfl,Z,q⟩:=h;obtain⟨t,rfl⟩:=G;refine⟨"str",_,PySem.F.slot_str_getitem.lookup,typeIs_str _ _ _,?_⟩;have go:∀(l u:Option (Int×Tok)),l.map (·.1)=lo->u.map (·.1)=hi->s.heap.IsSlice sl l u none->aH (aF X.prog X.w) X.A (jU (.str z t) (.ref sl)) (EP X pins σ Q) X.xe s:=λl u hl J O=>by
  refine wpAny_getItem_str_slice O rfl ?_;unfold sliceMade slicePicked;simp only[Option.map_none,jz,beq_self_eq_true,eY,hl,J];unfold cutS at q
  by_cases c:((b6 lo hi 1 z.length).length==z.length)=true
  ·rw[if_pos c] at q ⊢;exact⟨.str z,H,I,⟨t,rfl⟩,q⟩
  ·rw[if_neg c] at q ⊢;refine⟨?_,.str _,H,I.tok _,⟨_,rfl⟩,q⟩;have h1:=PyProof.Rows.indices_len_le lo hi z.length;have h2:((b6 lo hi 1 z.length).filterMap (z.cps[·]?)).length<=(b6 lo hi 1 z.length).length:=List.length_filterMap_le _ _;show((b6 lo hi 1 z.length).filterMap (z.cps[·]?)).toArray.size<=_;rw[aq,bu];lia
 obtain⟨o,d,B,hd⟩:=L;cases pl with
 |none =>
  cases pu with
  |none=>exact go none none rfl rfl ⟨o,d,B,hd⟩
  |int j D=>exact go none (some (j,D)) rfl rfl ⟨o,d,B,hd⟩
 |int i ti =>
  cases pu with
  |none=>exact go (some (i,ti)) none rfl rfl ⟨o,d,B,hd⟩
  |int j D=>exact go (some (i,ti)) (some (j,D)) rfl rfl ⟨o,d,B,hd⟩
end L2
set_option maxHeartbeats 1000000
namespace L2
open PySem PySem.Spec PyProof.Rows
inductive D where
 |non|bl (b:Bool)|int (i:Int)|str (x:Str)|ty (n:String)|ref (a:Addr)|tup (xs:List D)|lst (xs:List D)
abbrev Am:=Addr->Prop
structure Keep(M:Am)(H:Hp)(M':Am)(H':Hp):Prop where
 st:∀a o,¬ M a->H a=some o->H' a=some o
 nm:∀a,¬ M a->H a≠none->¬ M' a
def Xo:HO->Prop
 |.ext _=>True
 |.ins _ _ _=>True
 |_=>False
inductive DO where
 |lst (xs:List D)|dk (kvs:List (Key×D))|dt (kvs:List (List Key×D))
 |tb (pos:Pos) (qual:Str)
 |ex (f:Am->Hp->Addr->Prop) (hk:∀M M' H H' a,Keep M H M' H'->H' a=H a->f M H a->f M' H' a) (hl:∀M H a,f M H a->∃g,H a=some g/\Xo g)
abbrev Sto:=Addr->Option DO
abbrev Gm:=List (Option D)
def supd(S:Sto)(a:Addr)(o:DO):Sto:=λb=>if b=a then some o else S b
theorem aQa{S:Sto}{a:Addr}{o:DO}:supd S a o a=some o:=by unfold supd;rw[if_pos rfl]
theorem aQ7{S:Sto}{a b:Addr}{o:DO}(h:b≠a):supd S a o b=S b:=by unfold supd;rw[if_neg h]
def TupAt(K:Fg)(M:Am)(H:Hp)(a:Addr)(xs:List V):Prop:=(¬ M a/\Rd H a (.tup xs))\/SqT K (λ_=>none) a xs
theorem TupAt.sq{K:Fg}{M:Am}{H:Hp}{a:Addr}{xs:List V}(h:TupAt K M H a xs):SqT K H a xs:=by
 rcases h with h|(h|⟨o,h⟩)|h
 ·exact .inl h.2
 ·cases h
 ·cases h
 ·exact .inr h
def LstAt(K:Fg)(M:Am)(H:Hp)(a:Addr)(xs:List V):Prop:=(¬ M a/\Rd H a (.lst xs))\/SqL K (λ_=>none) a xs
theorem LstAt.sq{K:Fg}{M:Am}{H:Hp}{a:Addr}{xs:List V}(h:LstAt K M H a xs):SqL K H a xs:=by
 rcases h with h|(h|⟨o,h⟩)|h
 ·exact .inl h.2
 ·cases h
 ·cases h
 ·exact .inr h
mutual
def RepV(K:Fg)(M:Am)(H:Hp):D->V->Prop
 |.non,v=>v=.non
 |.bl b,v=>v=.bl b
 |.int i,v=>v=.int i
 |.str x,v=>v=.str x
 |.ty n,v=>v=.ty n
 |.ref a,v=>v=.ref a
 |.tup ds,v=>∃a xs,v=.ref a/\TupAt K M H a xs/\RepL K M H ds xs
 |.lst ds,v=>∃a xs,v=.ref a/\LstAt K M H a xs/\RepL K M H ds xs
def RepL(K:Fg)(M:Am)(H:Hp):List D->List V->Prop
 |[],xs=>xs=[]
 |d::ds,xs=>∃v vs,xs=v::vs/\RepV K M H d v/\RepL K M H ds vs
end
theorem Rd.live{H:Hp}{a:Addr}{u:HO}(r:Rd H a u):H a≠none:=by
 rcases r with r|⟨o,r⟩ <;> rw[r] <;> exact λz=>by cases z
theorem Keep.rd{M M':Am}{H H':Hp}(k:Keep M H M' H'){a:Addr}{u:HO}(hm:¬ M a)(r:Rd H a u):Rd H' a u:=by
 rcases r with r|⟨o,r⟩
 ·exact .inl (k.st a _ hm r)
 ·exact .inr ⟨o,k.st a _ hm r⟩
theorem TupAt.keep{K:Fg}{M M':Am}{H H':Hp}{p:Addr}{us:List V}(t:TupAt K M H p us)(x:Keep M H M' H'):TupAt K M' H' p us:=by
 rcases t with⟨hm,r⟩|t
 ·exact .inl ⟨x.nm p hm r.live,x.rd hm r⟩
 ·exact .inr t
theorem LstAt.keep{K:Fg}{M M':Am}{H H':Hp}{p:Addr}{us:List V}(t:LstAt K M H p us)(x:Keep M H M' H'):LstAt K M' H' p us:=by
 rcases t with⟨hm,r⟩|t
 ·exact .inl ⟨x.nm p hm r.live,x.rd hm r⟩
 ·exact .inr t
mutual
theorem RepV.keep{K:Fg}{M M':Am}{H H':Hp}(k:Keep M H M' H'):∀{d:D}{v:V},RepV K M H d v->RepV K M' H' d v
 |.non,_,h=>h
 |.bl _,_,h=>h
 |.int _,_,h=>h
 |.str _,_,h=>h
 |.ty _,_,h=>h
 |.ref _,_,h=>h
 |.tup ds,v,h=>by
  unfold RepV at h ⊢;obtain⟨a,xs,e,t,l⟩:=h;exact⟨a,xs,e,t.keep k,RepL.keep k l⟩
 |.lst ds,v,h=>by
  unfold RepV at h ⊢;obtain⟨a,xs,e,t,l⟩:=h;exact⟨a,xs,e,t.keep k,RepL.keep k l⟩
theorem RepL.keep{K:Fg}{M M':Am}{H H':Hp}(k:Keep M H M' H'):∀{ds:List D}{xs:List V},RepL K M H ds xs->RepL K M' H' ds xs
 |[],_,h=>h
 |d::ds,xs,h=>by
  unfold RepL at h ⊢;obtain⟨v,vs,e,r,l⟩:=h;exact⟨v,vs,e,RepV.keep k r,RepL.keep k l⟩
end
section
variable{K:Fg}{M:Am}{H:Hp}
theorem RepL.length:∀{ds:List D}{xs:List V},RepL K M H ds xs->xs.length=ds.length
 |[],_,h=>by unfold RepL at h;rw[h];rfl
 |d::ds,xs,h=>by
  unfold RepL at h;obtain⟨v,vs,rfl,_,l⟩:=h;simp[RepL.length l]
theorem RepL.nil:RepL K M H [] []:=by unfold RepL;rfl
theorem RepL.cons{d:D}{ds:List D}{v:V}{vs:List V}(r:RepV K M H d v)(l:RepL K M H ds vs):RepL K M H (d::ds) (v::vs):=by unfold RepL;exact⟨v,vs,rfl,r,l⟩
theorem RepL.app:∀{ds es:List D}{xs ys:List V},RepL K M H ds xs->RepL K M H es ys->RepL K M H (ds++es) (xs++ys)
 |[],es,xs,ys,h,h'=>by unfold RepL at h;rw[h];exact h'
 |d::ds,es,xs,ys,h,h'=>by
  unfold RepL at h;obtain⟨v,vs,rfl,r,l⟩:=h;exact RepL.cons r (RepL.app l h')
theorem RepL.get:∀{ds:List D}{xs:List V}{i:Nat}{d:D},RepL K M H ds xs->ds[i]?=some d->∃v,xs[i]?=some v/\RepV K M H d v
 |[],_,_,_,_,e=>by simp at e
 |d::ds,xs,0,e,h,he=>by
  unfold RepL at h;obtain⟨v,vs,rfl,r,l⟩:=h;simp at he;subst he;exact⟨v,rfl,r⟩
 |d::ds,xs,i+1,e,h,he=>by
  unfold RepL at h;obtain⟨v,vs,rfl,r,l⟩:=h;obtain⟨w,h1,h2⟩:=RepL.get (i:=i) l (by simpa using he)
  exact⟨w,by simpa using h1,h2⟩
theorem RepL.get'{ds:List D}{xs:List V}{i:Nat}{v:V}(h:RepL K M H ds xs)(e:xs[i]?=some v):∃d,ds[i]?=some d/\RepV K M H d v:=by
 have hl:=h.length;have hi:i<xs.length:=by
  rcases Nat.lt_or_ge i xs.length with z|z
  ·exact z
  ·rw[bY z] at e;cases e
 have j:ds[i]?=some ds[i]:=ag (by omega)
 obtain⟨w,h1,h2⟩:=h.get j;rw[e] at h1;cases h1;exact⟨_,j,h2⟩
theorem RepL.take:∀{ds:List D}{xs:List V}(n:Nat),RepL K M H ds xs->RepL K M H (ds.take n) (xs.take n)
 |_,_,0,_=>by simpa using RepL.nil
 |[],_,n+1,h=>by unfold RepL at h;subst h;simpa using RepL.nil
 |d::ds,xs,n+1,h=>by
  unfold RepL at h;obtain⟨v,vs,rfl,r,l⟩:=h;simpa using RepL.cons r (RepL.take n l)
theorem RepL.drop:∀{ds:List D}{xs:List V}(n:Nat),RepL K M H ds xs->RepL K M H (ds.drop n) (xs.drop n)
 |_,_,0,h=>by simpa using h
 |[],_,n+1,h=>by unfold RepL at h;subst h;simpa using RepL.nil
 |d::ds,xs,n+1,h=>by
  unfold RepL at h;obtain⟨v,vs,rfl,r,l⟩:=h;simpa using RepL.drop n l
theorem RepL.set{d:D}{v:V}(r:RepV K M H d v):∀{ds:List D}{xs:List V}(i:Nat),RepL K M H ds xs->RepL K M H (ds.set i d) (xs.set i v)
 |[],_,i,h=>by unfold RepL at h;subst h;simpa using RepL.nil
 |e::ds,xs,0,h=>by
  unfold RepL at h;obtain⟨w,vs,rfl,_,l⟩:=h;simpa using RepL.cons r l
 |e::ds,xs,i+1,h=>by
  unfold RepL at h;obtain⟨w,vs,rfl,q,l⟩:=h;simpa using RepL.cons q (RepL.set r i l)
theorem RepL.erase:∀{ds:List D}{xs:List V}(i:Nat),RepL K M H ds xs->RepL K M H (ds.eraseIdx i) (xs.eraseIdx i)
 |[],_,i,h=>by unfold RepL at h;subst h;simpa using RepL.nil
 |e::ds,xs,0,h=>by
  unfold RepL at h;obtain⟨w,vs,rfl,_,l⟩:=h;simpa using l
 |e::ds,xs,i+1,h=>by
  unfold RepL at h;obtain⟨w,vs,rfl,q,l⟩:=h;simpa using RepL.cons q (RepL.erase i l)
theorem RepL.one{d:D}{xs:List V}(h:RepL K M H [d] xs):∃v,xs=[v]/\RepV K M H d v:=by
 unfold RepL at h;obtain⟨v,vs,rfl,r,l⟩:=h;unfold RepL at l;subst l;exact⟨v,rfl,r⟩
theorem RepL.two{d e:D}{xs:List V}(h:RepL K M H [d,e] xs):∃v w,xs=[v,w]/\RepV K M H d v/\RepV K M H e w:=by
 unfold RepL at h;obtain⟨v,vs,rfl,r,l⟩:=h;obtain⟨w,rfl,i⟩:=l.one;exact⟨v,w,rfl,r,i⟩
end
def mt(S:Sto)(F:Am):Am:=λa=>S a≠none\/F a
abbrev cdO(c:Addr)(oc:Obj):HO:=.ext λh=>h.get? c=some oc
def TbOk(M:Am)(H:Hp)(pos:Pos)(qual:Str)(ps:Array ad):Prop:=TriplesOk ps.toList/\(codeAmong pos ps.toList=none \/
 ∃c oc,codeAmong pos ps.toList=some (.ref c)/\¬ M c/\H c=some (cdO c oc)/\∃vs t,oc.data=.fields vs/\vs[1]?=some (.str qual t))
theorem TbOk.keep{M M':Am}{H H':Hp}(k:Keep M H M' H'){pos:Pos}{qual:Str}{ps:Array ad}(h:TbOk M H pos qual ps):TbOk M' H' pos qual ps:=by
 obtain⟨h1,h2⟩:=h;refine⟨h1,h2.imp id λ⟨c,oc,i,m,d,r⟩=>⟨c,oc,i,k.nm c m (by rw[d];exact λz=>by cases z),k.st c _ m d,r⟩⟩
def RepO(K:Fg)(M:Am)(H:Hp)(a:Addr):DO->Prop
 |.lst ds=>∃xs,H a=some (.lst xs)/\RepL K M H ds xs
 |.dk kvs=>∃ks,H a=some (.dK ks)/\a9 (λ(p:Key×V) (q:Key×D)=>p.1=q.1/\RepV K M H q.2 p.2) ks kvs
 |.dt kvs=>∃ks,H a=some (.dT ks)/\a9 (λ(p:List Key×V) (q:List Key×D)=>p.1=q.1/\RepV K M H q.2 p.2) ks kvs
 |.tb pos qual=>∃ps,H a=some (.tbl ps)/\TbOk M H pos qual ps
 |.ex f _ _=>f M H a
theorem RepO.live{K:Fg}{M:Am}{H:Hp}{a:Addr}{o:DO}(h:RepO K M H a o):H a≠none:=by
 cases o with
 |ex f d hl=>obtain⟨g,e,_⟩:=hl _ _ _ h;rw[e];exact λz=>by cases z
 |_=>obtain⟨xs,e,_⟩:=h;rw[e];exact λz=>by cases z
theorem RepO.keep{K:Fg}{M M':Am}{H H':Hp}(k:Keep M H M' H'){a:Addr}{o:DO}(e:H' a=H a)(h:RepO K M H a o):RepO K M' H' a o:=by
 cases o with
 |lst ds=>obtain⟨xs,d,l⟩:=h;exact⟨xs,e.trans d,l.keep k⟩
 |dk i=>obtain⟨xs,d,l⟩:=h;exact⟨xs,e.trans d,Paired.imp (λ_ _ z=>⟨z.1,z.2.keep k⟩) l⟩
 |dt i=>obtain⟨xs,d,l⟩:=h;exact⟨xs,e.trans d,Paired.imp (λ_ _ z=>⟨z.1,z.2.keep k⟩) l⟩
 |tb pos qual=>obtain⟨xs,d,l⟩:=h;exact⟨xs,e.trans d,l.keep k⟩
 |ex f j hl=>exact j _ _ _ _ _ k e h
def Clt:HO->Prop
 |.lst _=>True
 |.ext _=>True
 |_=>False
structure Rp(K:Fg)(F:Am)(S:Sto)(H:Hp):Prop where
 obj:∀a o,S a=some o->RepO K (mt S F) H a o
 frm:∀a,F a->(∃u,H a=some u/\Clt u)/\S a=none
structure Ext(S:Sto)(H:Hp)(S':Sto)(H':Hp):Prop where
 keep:∀a o,S a=none->H a=some o->H' a=some o
 live:∀a,H a≠none->H' a≠none
 new:∀a,S' a≠none->S a≠none\/H a=none
theorem Ext.refl(S:Sto)(H:Hp):Ext S H S H:=⟨λ_ _ _ h=>h,λ_ h=>h,λ_ h=>.inl h⟩
theorem Ext.sn{S S':Sto}{H H':Hp}(x:Ext S H S' H'){a:Addr}(h:S a=none)(h':H a≠none):S' a=none:=by
 cases e:S' a with
 |none=>rfl
 |some o =>
  rcases x.new a (by rw[e];exact λz=>by cases z) with z|z
  ·exact absurd h z
  ·exact absurd z h'
theorem Ext.trans{S S1 S2:Sto}{H H1 H2:Hp}(x:Ext S H S1 H1)(y:Ext S1 H1 S2 H2):Ext S H S2 H2 :=
 ⟨λa o h h'=>y.keep a o (x.sn h (by rw[h'];exact λz=>by cases z)) (x.keep a o h h'),λa h=>y.live a (x.live a h),λa h=>by
  rcases y.new a h with z|z
  ·exact x.new a z
  ·refine .inr (aX λn=>x.live a n z)⟩
theorem Ext.same{S:Sto}{H H':Hp}(s:Same H H'):Ext S H S H' where
 keep:=λa o _ h=>s a o h
 live:=λa h=>by
  cases e:H a with
  |none=>exact absurd e h
  |some o =>
   rw[s a o e];exact λz=>by cases z
 new:=λ_ h=>.inl h
theorem Ext.kp{F:Am}{S S':Sto}{H H':Hp}(x:Ext S H S' H'):Keep (mt S F) H (mt S' F) H':=⟨λa o h e=>x.keep a o (aX λn=>h (.inl n)) e,λa h e=>λz=>by
 rcases z with z|z
 ·rcases x.new a z with y|y
  ·exact h (.inl y)
  ·exact e y
 ·exact h (.inr z)⟩
section
variable{K:Fg}{F:Am}{S S':Sto}{H H':Hp}
theorem RepV.ext{d:D}{v:V}(h:RepV K (mt S F) H d v)(x:Ext S H S' H'):RepV K (mt S' F) H' d v:=h.keep x.kp
theorem RepL.ext{ds:List D}{vs:List V}(h:RepL K (mt S F) H ds vs)(x:Ext S H S' H'):RepL K (mt S' F) H' ds vs:=h.keep x.kp
theorem Rp.same(r:Rp K F S H)(s:Same H H'):Rp K F S H' where
 obj:=λa o h=>by
  have q:=r.obj a o h;have e:H' a=H a:=by
   cases z:H a with
   |none=>exact absurd z q.live
   |some u=>exact s a u z
  exact q.keep (Ext.same s).kp e
 frm:=λa h=>by
  obtain⟨⟨zs,e,ct⟩,h2⟩:=r.frm a h;exact⟨⟨zs,s a _ e,ct⟩,h2⟩
theorem Ext.write{a:Addr}{o:DO}{u:HO}(h:S a≠none):Ext S H (supd S a o) (upd H a u) where
 keep:=λb i h1 h2=>by
  have ne:b≠a:=by rintro rfl;exact h h1
  rw[upd_ne ne];exact h2
 live:=λb d=>by
  by_cases e:b=a
  ·subst e;rw[aQ9];exact λz=>by cases z
  ·rw[upd_ne e];exact d
 new:=λb d=>by
  by_cases e:b=a
  ·subst e;exact .inl h
  ·rw[aQ7 e] at d;exact .inl d
theorem Rp.write{a:Addr}{o:DO}{u:HO}(r:Rp K F S H)(h:S a≠none)(q:RepO K (mt (supd S a o) F) (upd H a u) a o):Rp K F (supd S a o) (upd H a u) where
 obj:=λb d hb=>by
  by_cases e:b=a
  ·subst e;rw[aQa] at hb;cases hb;exact q
  ·rw[aQ7 e] at hb;exact(r.obj b d hb).keep (Ext.write h).kp (upd_ne e)
 frm:=λb hb=>by
  have e:b≠a:=by rintro rfl;exact h (r.frm b hb).2
  rw[upd_ne e,aQ7 e];exact r.frm b hb
theorem Rp.sn(r:Rp K F S H){a:Addr}(h:H a=none):S a=none:=by
 cases e:S a with
 |none=>rfl
 |some o=>exact absurd h (r.obj a o e).live
theorem Ext.mk'{a:Addr}{o:DO}{u:HO}(h:H a=none):Ext S H (supd S a o) (upd H a u) where
 keep:=λb i h1 h2=>by
  have ne:b≠a:=by rintro rfl;rw[h] at h2;cases h2
  rw[upd_ne ne];exact h2
 live:=λb d=>by
  have ne:b≠a:=by rintro rfl;exact d h
  rw[upd_ne ne];exact d
 new:=λb d=>by
  by_cases e:b=a
  ·subst e;exact .inr h
  ·rw[aQ7 e] at d;exact .inl d
theorem Rp.mk'{a:Addr}{o:DO}{u:HO}(r:Rp K F S H)(h:H a=none)(q:RepO K (mt (supd S a o) F) (upd H a u) a o):Rp K F (supd S a o) (upd H a u) where
 obj:=λb d hb=>by
  by_cases e:b=a
  ·subst e;rw[aQa] at hb;cases hb;exact q
  ·rw[aQ7 e] at hb;exact(r.obj b d hb).keep (Ext.mk' h).kp (upd_ne e)
 frm:=λb hb=>by
  have e:b≠a:=by
   rintro rfl;obtain⟨⟨zs,e,_⟩,_⟩:=r.frm b hb;rw[h] at e;cases e
  rw[upd_ne e,aQ7 e];exact r.frm b hb
theorem Ext.less{S':Sto}(h:∀ a o,S' a=some o->S a=some o):Ext S H S' H:=⟨λ_ _ _ e=>e,λ_ e=>e,λa e=>.inl λz=>by
 cases q:S' a with
 |none=>exact e q
 |some o=>rw[h a o q] at z;cases z⟩
theorem Rp.less{S':Sto}(r:Rp K F S H)(h:∀a o,S' a=some o->S a=some o):Rp K F S' H where
 obj:=λa o e=>(r.obj a o (h a o e)).keep (Ext.less h).kp rfl
 frm:=λa e=>⟨(r.frm a e).1,by
  cases q:S' a with
  |none=>rfl
  |some o=>have:=h a o q;rw[(r.frm a e).2] at this;cases this⟩
end
def look(g:Gm)(i:Nat)(k:D->Prop):Prop:=match i with
 |0=>match g with
  |some d::_=>k d
  |_=>False
 |n+1=>match g with
  |_::g=>look g n k
  |[]=>False
def RepG(K:Fg)(M:Am)(H:Hp):Gm->St->Prop
 |[],σ=>σ=[]
 |none::g,σ=>∃v τ,σ=v::τ/\RepG K M H g τ
 |some d::g,σ=>∃v τ,σ=some v::τ/\RepV K M H d v/\RepG K M H g τ
theorem RepG.keep{K:Fg}{M M':Am}{H H':Hp}(k:Keep M H M' H'):∀{g:Gm}{σ:St},RepG K M H g σ->RepG K M' H' g σ
 |[],_,h=>h
 |none::g,_,⟨v,τ,e,r⟩=>⟨v,τ,e,RepG.keep k r⟩
 |some d::g,_,⟨v,τ,e,q,r⟩=>⟨v,τ,e,q.keep k,RepG.keep k r⟩
theorem RepG.ext{K:Fg}{F:Am}{S S':Sto}{H H':Hp}{g:Gm}{σ:St}(h:RepG K (mt S F) H g σ)(x:Ext S H S' H'):RepG K (mt S' F) H' g σ:=h.keep x.kp
theorem RepG.look{K:Fg}{M:Am}{H:Hp}{k:D->Prop}:∀{g:Gm}{σ:St}{i:Nat},RepG K M H g σ->look g i k->∃v d,σ[i]?=some (some v)/\RepV K M H d v/\k d
 |[],_,0,_,h=>eB h
 |[],_,_+1,_,h=>eB h
 |none::_,_,0,_,h=>eB h
 |some d::g,_,0,⟨v,τ,e,q,r⟩,h=>⟨v,d,by rw[e];rfl,q,h⟩
 |some d::g,_,i+1,⟨v,τ,e,q,r⟩,h=>by
  obtain⟨u,B,j,h1⟩:=RepG.look (i:=i) r h;exact⟨u,B,by rw[e];simpa using j,h1⟩
 |none::g,_,i+1,⟨v,τ,e,r⟩,h=>by
  obtain⟨u,B,j,h1⟩:=RepG.look (i:=i) r h;exact⟨u,B,by rw[e];simpa using j,h1⟩
theorem RepG.set{K:Fg}{M:Am}{H:Hp}{d:D}{v:V}(q:RepV K M H d v):∀{g:Gm}{σ:St}(i:Nat),RepG K M H g σ->RepG K M H (g.set i (some d)) (σ.set i (some v))
 |[],_,_,h=>by cases h;rfl
 |none::g,_,0,⟨w,τ,e,r⟩=>by subst e;exact⟨v,τ,rfl,q,r⟩
 |some _::g,_,0,⟨w,τ,e,_,r⟩=>by subst e;exact⟨v,τ,rfl,q,r⟩
 |none::g,_,i+1,⟨w,τ,e,r⟩=>by subst e;exact⟨w,_,rfl,RepG.set q i r⟩
 |some _::g,_,i+1,⟨w,τ,e,z,r⟩=>by subst e;exact⟨w,_,rfl,z,RepG.set q i r⟩
abbrev DK:=D->Sto->Prop
abbrev ED:=Gm->Sto->DK->Prop
abbrev TD:=Gm->Sto->(Bool->Sto->Prop)->Prop
abbrev AD:=Gm->Sto->(List D->Sto->Prop)->Prop
structure EndsD where
 nx:Gm->Sto->Prop
 rt:DK
 bk:Gm->Sto->Prop:=λ_ _=>False
 ct:Gm->Sto->Prop:=λ_ _=>False
abbrev SD:=EndsD->Gm->Sto->Prop
def upE(K:Fg)(t:ED):TE:=fun σ H Q=>∃F S Γ QD,Rp K F S H/\RepG K (mt S F) H Γ σ/\t Γ S QD/\∀v d H' S',Ext S H S' H'->Rp K F S' H'->RepV K (mt S' F) H' d v->QD d S'->Q v H'
theorem upE.el{K:Fg}{t:ED}{σ:St}{H:Hp}{Q:VK}{p:Prop}(h:upE K t σ H Q)(k:∀F S Γ QD,Rp K F S H->RepG K (mt S F) H Γ σ->t Γ S QD->(∀v d H' S',Ext S H S' H'->Rp K F S' H'->RepV K (mt S' F) H' d v->QD d S'->Q v H')->p):p:=by
 obtain⟨F,S,Γ,QD,h0,h1,h2,i⟩:=h;exact k F S Γ QD h0 h1 h2 i
def upT(K:Fg)(t:TD):TT:=fun σ H Q=>∃F S Γ QD,Rp K F S H/\RepG K (mt S F) H Γ σ/\t Γ S QD/\∀b H' S',Ext S H S' H'->Rp K F S' H'->QD b S'->Q b H'
theorem upT.el{K:Fg}{t:TD}{σ:St}{H:Hp}{Q:Bool->Hp->Prop}{p:Prop}(h:upT K t σ H Q)(k:∀F S Γ QD,Rp K F S H->RepG K (mt S F) H Γ σ->t Γ S QD->(∀b H' S',Ext S H S' H'->Rp K F S' H'->QD b S'->Q b H')->p):p:=by
 obtain⟨F,S,Γ,QD,h0,h1,h2,d⟩:=h;exact k F S Γ QD h0 h1 h2 d
def upA(K:Fg)(t:AD):TA:=fun σ H Q=>∃F S Γ QD,Rp K F S H/\RepG K (mt S F) H Γ σ/\t Γ S QD/\∀vs ds H' S',Ext S H S' H'->Rp K F S' H'->RepL K (mt S' F) H' ds vs->QD ds S'->Q vs H'
theorem upA.el{K:Fg}{t:AD}{σ:St}{H:Hp}{Q:List V->Hp->Prop}{p:Prop}(h:upA K t σ H Q)(k:∀F S Γ QD,Rp K F S H->RepG K (mt S F) H Γ σ->t Γ S QD->(∀vs ds H' S',Ext S H S' H'->Rp K F S' H'->RepL K (mt S' F) H' ds vs->QD ds S'->Q vs H')->p):p:=by
 obtain⟨F,S,Γ,QD,h0,h1,h2,d⟩:=h;exact k F S Γ QD h0 h1 h2 d
structure CnS(K:Fg)(F:Am)(S:Sto)(H:Hp)(E:EndsD)(D':Ends):Prop where
 nx:∀Γ' S' σ' H',Ext S H S' H'->Rp K F S' H'->RepG K (mt S' F) H' Γ' σ'->E.nx Γ' S'->D'.nx σ' H'
 rt:∀v d H' S',Ext S H S' H'->Rp K F S' H'->RepV K (mt S' F) H' d v->E.rt d S'->D'.rt v H'
 bk:∀Γ' S' σ' H',Ext S H S' H'->Rp K F S' H'->RepG K (mt S' F) H' Γ' σ'->E.bk Γ' S'->D'.bk σ' H'
 ct:∀Γ' S' σ' H',Ext S H S' H'->Rp K F S' H'->RepG K (mt S' F) H' Γ' σ'->E.ct Γ' S'->D'.ct σ' H'
theorem CnS.ext{K:Fg}{F:Am}{S S1:Sto}{H H1:Hp}{E:EndsD}{D':Ends}(c:CnS K F S H E D')(x:Ext S H S1 H1):CnS K F S1 H1 E D' :=
 ⟨fun Γ' S' σ' H' y=>c.nx Γ' S' σ' H' (x.trans y),λv d H' S' y=>c.rt v d H' S' (x.trans y),fun Γ' S' σ' H' y=>c.bk Γ' S' σ' H' (x.trans y),fun Γ' S' σ' H' y=>c.ct Γ' S' σ' H' (x.trans y)⟩
def upS(K:Fg)(t:SD):TS:=λD' σ H=>∃F S Γ E,Rp K F S H/\RepG K (mt S F) H Γ σ/\t E Γ S/\CnS K F S H E D'
theorem upS.el{K:Fg}{t:SD}{D':Ends}{σ:St}{H:Hp}{p:Prop}(h:upS K t D' σ H)(k:∀F S Γ E,Rp K F S H->RepG K (mt S F) H Γ σ->t E Γ S->CnS K F S H E D'->p):p:=by
 obtain⟨F,S,Γ,E,h0,h1,h2,d⟩:=h;exact k F S Γ E h0 h1 h2 d
structure PD(K:Fg)(X:Cx)(e:Expr)(t:ED):Prop where
 o:PE X e (upE K t)
structure PTD(K:Fg)(X:Cx)(e:Expr)(t:TD):Prop where
 o:PT X e (upT K t)
structure PAD(K:Fg)(X:Cx)(es:List Expr)(t:AD):Prop where
 o:PA X es (upA K t)
structure PSD(K:Fg)(X:Cx)(st:Stmt)(t:SD):Prop where
 o:PS X st (upS K t)
structure PSsD(K:Fg)(X:Cx)(st:List Stmt)(t:SD):Prop where
 o:PSs X st (upS K t)
section
variable{X:Cx}{K:Fg}
theorem PD.of{e:Expr}{te:TE}{t:ED}(h:PE X e te)(i:∀σ H Q,upE K t σ H Q->te σ H Q):PD K X e t:=⟨λpins s σ H Q I q=>h pins s σ H Q I (i σ H Q q)⟩
theorem PTD.of{e:Expr}{te:TT}{t:TD}(h:PT X e te)(i:∀σ H Q,upT K t σ H Q->te σ H Q):PTD K X e t:=⟨λpins s σ H Q I q=>h pins s σ H Q I (i σ H Q q)⟩
theorem PAD.of{e:List Expr}{te:TA}{t:AD}(h:PA X e te)(i:∀σ H Q,upA K t σ H Q->te σ H Q):PAD K X e t:=⟨λpos pins s σ H Q I q=>h pos pins s σ H Q I (i σ H Q q)⟩
theorem PSD.of{e:Stmt}{te:TS}{t:SD}(h:PS X e te)(i:∀D' σ H,upS K t D' σ H->te D' σ H):PSD K X e t:=⟨λpins s σ H D' I q=>h pins s σ H D' I (i D' σ H q)⟩
theorem PSsD.of{e:List Stmt}{te:TS}{t:SD}(h:PSs X e te)(i:∀D' σ H,upS K t D' σ H->te D' σ H):PSsD K X e t:=⟨λpins s σ H D' I q=>h pins s σ H D' I (i D' σ H q)⟩
def dVar(i:Nat):ED:=fun Γ S Q=>look Γ i λd=>Q d S
def dC(d:D):ED:=λ_ S Q=>Q d S
theorem dv(i:Nat){x:Str}{pos:Pos}(hN:X.N[i]?=some x:=by rfl)(hv:Vis X.env.scope x:=by first|exact aY rfl|exact h9 (aY rfl)|exact h9 (h9 rfl))(hd:(x==("__debug__":Str))=false:=by decide)
  (hcd:(x==("__classdict__":Str))=false:=by decide):PD K X (.Name x pos) (dVar i):=.of (eJs hN hv hd hcd) fun σ H Q j=>j.el λF S Γ QD r g h c=>by
 obtain⟨v,d,e,q,z⟩:=g.look h;exact⟨v,e,c v d H S (Ext.refl _ _) r q z⟩
theorem up_c{d:D}{v:V}(h:∀M H,RepV K M H d v):∀σ H Q,upE K (dC d) σ H Q->tC v σ H Q:=fun σ H Q i=>i.el λF S Γ QD r g q c=>c v d H S (Ext.refl _ _) r (h _ _) q
theorem aQ6{i j pos}:PD K X (.Constant (.int i) j pos) (dC (.int i)):=.of eJt (up_c λ_ _=>by unfold RepV;rfl)
theorem e_bl{b j pos}:PD K X (.Constant (.bool b) j pos) (dC (.bl b)):=.of fJa (up_c λ_ _=>by unfold RepV;rfl)
theorem fZf{j pos}:PD K X (.Constant .none j pos) (dC .non):=.of eJu (up_c λ_ _=>by unfold RepV;rfl)
theorem aXd{x j pos}:PD K X (.Constant (.str x) j pos) (dC (.str x)):=.of eJv (up_c λ_ _=>by unfold RepV;rfl)
theorem e_ty{x:Str}{n:String}{pos:Pos}(hg:Gl X x)(hm:X.mg x=none)(hv:bH x=some (.type n))(hn:x ≠ "__name__":=by decide)(hd:(x==("__debug__":Str))=false:=by decide):PD K X (.Name x pos) (dC (.ty n)) :=
 .of (fJu hg hm hv hn hd) (up_c λ_ _=>by unfold RepV;rfl)
def Cn(K:Fg)(F:Am)(S:Sto)(H:Hp)(QD:DK)(Q:VK):Prop:=∀v d H' S',Ext S H S' H'->Rp K F S' H'->RepV K (mt S' F) H' d v->QD d S'->Q v H'
abbrev R2D:=D->D->Sto->DK->Prop
def OpD(K:Fg)(r:R2)(rd:R2D):Prop:=∀F S H d e x y Q QD,Rp K F S H->RepV K (mt S F) H d x->RepV K (mt S F) H e y->rd d e S QD->Cn K F S H QD Q->r x y H Q
def dOp(rd:R2D)(ta tb:ED):ED:=fun Γ S Q=>ta Γ S λx S1=>tb Γ S1 λy S2=>rd x y S2 Q
theorem dZn{r:R2}{rd:R2D}{ta tb:ED}(h:OpD K r rd):∀σ H Q,upE K (dOp rd ta tb) σ H Q->tOp r (upE K ta) (upE K tb) σ H Q:=fun σ H Q B=>B.el λF S Γ QD r g q c =>
 ⟨F,S,Γ,_,r,g,q,λx d H1 Z j J v1 O=>⟨F,Z,Γ,_,J,g.ext j,O,λy e H2 Y i G v2 L=>h F Y H2 d e x y Q QD G (v1.ext i) v2 L λv z H3 U D=>c v z H3 U (j.trans (i.trans D))⟩⟩
theorem e_op{op:Operator}{r:R2}{rd:R2D}{a b:Expr}{ta tb:ED}{pos:Pos}(ho:OpR X (eC op) r)(h:OpD K r rd)(ha:PD K X a ta)(hb:PD K X b tb):PD K X (.BinOp a op b pos) (dOp rd ta tb):=.of (fJj ho ha.o hb.o) (dZn h)
theorem eZd{op:CmpOp}{r:R2}{rd:R2D}{a b:Expr}{ta tb:ED}{pos:Pos}(ho:OpR X (cu op) r)(h:OpD K r rd)(ha:PD K X a ta)(hb:PD K X b tb)(hm:d7 op b=false):PD K X (.Compare a [op] [b] pos) (dOp rd ta tb):=.of (eQc ho ha.o hb.o hm) (dZn h)
def aXy(t:ED):TD:=fun Γ S Q=>t Γ S λd S1=>∃b,d=.bl b/\Q b S1
theorem fZg{r:R2}{rd:R2D}{ta tb:ED}(h:OpD K r rd):∀ σ H Q,upT K (aXy (dOp rd ta tb)) σ H Q->eQd (tOp r (upE K ta) (upE K tb)) σ H Q:=fun σ H Q q=>dZn (rd:=rd) h σ H _ (by
 obtain⟨F,S,Γ,QD,r,g,q,c⟩:=q;refine⟨F,S,Γ,_,r,g,q,λv d H1 D i j v1 ⟨b,e,B⟩=>?_⟩;subst e;unfold RepV at v1;exact⟨b,v1,c b H1 D i j B⟩)
theorem aXz{op:CmpOp}{r:R2}{rd:R2D}{a b:Expr}{ta tb:ED}{pos:Pos}(ho:OpR X (cu op) r)(h:OpD K r rd)(ha:PD K X a ta)(hb:PD K X b tb)(hm:d7 op b=false):PTD K X (.Compare a [op] [b] pos) (aXy (dOp rd ta tb)):=.of (eQe ho ha.o hb.o hm) (fZg h)
end
end L2
set_option maxHeartbeats 4000000
namespace L2
open PySem PySem.Spec PyProof.Rows
section
variable{K:Fg}{F:Am}{S:Sto}{H:Hp}{QD:DK}{Q:VK}
theorem Cn.here(c:Cn K F S H QD Q)(r:Rp K F S H){d:D}{v:V}(h:RepV K (mt S F) H d v)(q:QD d S):Q v H:=c v d H S (Ext.refl _ _) r h q
theorem Cn.int(c:Cn K F S H QD Q)(r:Rp K F S H){i:Int}(q:QD (.int i) S):Q (.int i) H:=c.here r (by unfold RepV;rfl) q
theorem Cn.str(c:Cn K F S H QD Q)(r:Rp K F S H){i:Str}(q:QD (.str i) S):Q (.str i) H:=c.here r (by unfold RepV;rfl) q
theorem Cn.bl(c:Cn K F S H QD Q)(r:Rp K F S H){i:Bool}(q:QD (.bl i) S):Q (.bl i) H:=c.here r (by unfold RepV;rfl) q
theorem Rp.nmt(r:Rp K F S H){a:Addr}(h:H a=none):¬ mt S F a:=λz=>by
 rcases z with z|z
 ·exact z (r.sn h)
 ·obtain⟨⟨zs,e,_⟩,_⟩:=r.frm a z;rw[h] at e;cases e
theorem Cn.tup(c:Cn K F S H QD Q)(r:Rp K F S H){l:Addr}(h:H l=none){ds:List D}{xs:List V}(rl:RepL K (mt S F) H ds xs)(q:QD (.tup ds) S):Q (.ref l) (upd H l (.tup xs)):=by
 have x:Ext S H S (upd H l (.tup xs)):=Ext.same (aQs h);refine c _ _ _ S x (r.same (aQs h)) ?_ q;unfold RepV;exact⟨l,xs,rfl,.inl ⟨r.nmt h,.inl aQ9⟩,rl.ext x⟩
theorem Cn.lst(c:Cn K F S H QD Q)(r:Rp K F S H){l:Addr}(h:H l=none){ds:List D}{xs:List V}(rl:RepL K (mt S F) H ds xs)(q:QD (.lst ds) S):Q (.ref l) (upd H l (.lst xs)):=by
 have x:Ext S H S (upd H l (.lst xs)):=Ext.same (aQs h);refine c _ _ _ S x (r.same (aQs h)) ?_ q;unfold RepV;exact⟨l,xs,rfl,.inl ⟨r.nmt h,.inl aQ9⟩,rl.ext x⟩
theorem Cn.lstR(c:Cn K F S H QD Q)(r:Rp K F S H){l:Addr}(h:H l=none){ds:List D}{xs:List V}(rl:RepL K (mt S F) H ds xs)(q:QD (.ref l) (supd S l (.lst ds))):Q (.ref l) (upd H l (.lst xs)):=by
 have x:Ext S H (supd S l (.lst ds)) (upd H l (.lst xs)):=Ext.mk' h;exact c _ _ _ _ x (r.mk' h ⟨xs,aQ9,rl.ext x⟩) (by unfold RepV;rfl) q
def newL(b:Bool)(ds:List D)(S:Sto)(Q:DK):Prop:=match b with
 |false=>Q (.lst ds) S
 |true=>∀p,S p=none->Q (.ref p) (supd S p (.lst ds))
theorem Cn.new(c:Cn K F S H QD Q)(r:Rp K F S H){b:Bool}{l:Addr}(h:H l=none){ds:List D}{xs:List V}(rl:RepL K (mt S F) H ds xs)(q:newL b ds S QD):Q (.ref l) (upd H l (.lst xs)):=by
 cases b with
 |false=>exact c.lst r h rl q
 |true=>exact c.lstR r h rl (q l (r.sn h))
def lsIs(S:Sto):D->List D->Prop
 |.lst ys,xs=>ys=xs
 |.ref a,xs=>S a=some (.lst xs)
 |_,_=>False
def sqIs(S:Sto):D->List D->Prop
 |.tup ys,xs=>ys=xs
 |.lst ys,xs=>ys=xs
 |.ref a,xs=>S a=some (.lst xs)
 |_,_=>False
theorem lsIs.sl(r:Rp K F S H){d:D}{v:V}{ds:List D}(h:RepV K (mt S F) H d v)(l:lsIs S d ds):∃a xs,v=.ref a/\SqL K H a xs/\RepL K (mt S F) H ds xs:=by
 cases d with
 |lst ys =>
  cases l;unfold RepV at h;obtain⟨a,xs,e,q,z⟩:=h;exact⟨a,xs,e,q.sq,z⟩
 |ref a =>
  unfold RepV at h;obtain⟨xs,e,z⟩:=r.obj a _ l;exact⟨a,xs,h,SqL.of e,z⟩
 |_=>exact l.elim
theorem tup.st{ds:List D}{v:V}(h:RepV K (mt S F) H (.tup ds) v):∃a xs,v=.ref a/\SqT K H a xs/\RepL K (mt S F) H ds xs:=by
 unfold RepV at h;obtain⟨a,xs,e,t,z⟩:=h;exact⟨a,xs,e,t.sq,z⟩
theorem sqIs.sq(r:Rp K F S H){d:D}{v:V}{ds:List D}(h:RepV K (mt S F) H d v)(l:sqIs S d ds):∃a xs,v=.ref a/\(SqL K H a xs\/SqT K H a xs)/\RepL K (mt S F) H ds xs:=by
 cases d with
 |tup ys =>
  cases l;obtain⟨a,xs,e,t,z⟩:=tup.st h;exact⟨a,xs,e,.inr t,z⟩
 |lst ys =>
  obtain⟨a,xs,e,t,z⟩:=lsIs.sl r h (show lsIs S (.lst ys) ds from l)
  exact⟨a,xs,e,.inl t,z⟩
 |ref a =>
  obtain⟨a,xs,e,t,z⟩:=lsIs.sl r h (show lsIs S (.ref a) ds from l)
  exact⟨a,xs,e,.inl t,z⟩
 |_=>exact l.elim
theorem rint{i:Int}{v:V}(h:RepV K (mt S F) H (.int i) v):v=.int i:=by unfold RepV at h;exact h
theorem rstr{i:Str}{v:V}(h:RepV K (mt S F) H (.str i) v):v=.str i:=by unfold RepV at h;exact h
theorem rbl{i:Bool}{v:V}(h:RepV K (mt S F) H (.bl i) v):v=.bl i:=by unfold RepV at h;exact h
theorem rref{i:Addr}{v:V}(h:RepV K (mt S F) H (.ref i) v):v=.ref i:=by unfold RepV at h;exact h
theorem rnon{v:V}(h:RepV K (mt S F) H .non v):v=.non:=by unfold RepV at h;exact h
end
section
variable{X:Cx}{K:Fg}
def fZh(K:Fg):R2:=λx y H Q=>∃l b xs zs,x=.ref l/\y=.ref b/\SqL K H l xs/\SqL K H b zs/\xs.length+zs.length<=sizeLine/\∀p,H p=none->Q (.ref p) (upd H p (.lst (xs++zs)))
theorem eZe(hK:X.K=K:=by rfl):OpR X (eC .Add) (fZh K):=by
 subst hK;intro pins s σ H x y v u Q I rx ry h;obtain⟨l,b,xs,zs,rfl,rfl,hH,hB,hz,q⟩:=h;cases rx;cases ry;obtain⟨j,r,⟨⟨cls,dd,data,sl⟩,n,O,U,hd,D⟩,hz1⟩:=I.list hH;obtain⟨d,L,⟨⟨Y,dd2,data2,J⟩,Z,B,G,hd2,i⟩,hz2⟩:=I.list hB;simp only at U hd D G hd2 i;subst U hd D G hd2 i;have h1:=r.length;have h2:=L.length;refine jT ⟨_,O,rfl⟩ ⟨_,B,rfl⟩ noFill_list_add seq_list_add PySem.F.slot_list_add PySem.F.entry_list_add (PySem.F.args_list_add_2 _ _)
  (list_addW l b j.toArray d.toArray n Z none none sl J (by rw[aq,aq];lia)) ⟨O,B,?_⟩
 have ea:j.toArray++d.toArray=(j++d).toArray:=by simp
 rw[ea];exact⟨.ref _,_,I.lnew (t':=s.toks) (r.append L) (by rw[ar];lia),rfl,q _ I.fresh⟩
def fZi(K:Fg):R2:=λx y H Q=>∃a b ys,x=.ref a/\y=.ref b/\SqT K H a []/\SqT K H b ys/\Q (.ref b) H
theorem eZf(hK:X.K=K:=by rfl):OpR X (eC .Add) (fZi K):=by
 subst hK;intro pins s σ H x y v u Q I rx ry h;obtain⟨a,b,ys,rfl,rfl,ha,Z,q⟩:=h;cases rx;cases ry;obtain⟨Y,r1,O,_⟩:=I.tuple ha;obtain⟨D,r2,p2,_⟩:=I.tuple Z;cases r1;obtain⟨⟨cls,dd,data,sl⟩,G,J,n,hd⟩:=id O;obtain⟨⟨L,B,data2,j⟩,d,i,U,hd2⟩:=id p2;simp only at J hd i hd2;subst J hd i hd2;exact jT ⟨_,G,rfl⟩ ⟨_,d,rfl⟩ jy seq_tuple_add gH gA (f9 _ _)
   (tuple_addW0 a b _ _ n U dd B sl j rfl) ⟨G,d,⟨.ref b,H,I,rfl,q⟩⟩
def addD(b:Bool):R2D:=λd e S Q=>match d,e with
 |.int i,.int j=>Q (.int (i+j)) S
 |.str x,.str y=>x.length+y.length<=sizeLine/\Q (.str (x++y)) S
 |.tup xs,.tup ys=>xs.length+ys.length<=sizeLine/\Q (.tup (xs++ys)) S
 |d,e=>∃xs ys,lsIs S d xs/\lsIs S e ys/\xs.length+ys.length<=sizeLine/\newL b (xs++ys) S Q
def eZg(K:Fg):R2:=λx y H Q=>rI0 (λi j=>.int (i+j)) x y H Q\/(∃i j,x=.str i/\y=.str j/\i.length+j.length<=sizeLine/\Q (.str (i++j)) H)\/eQk K x y H Q\/fZi K x y H Q\/fZh K x y H Q
theorem eZh(hK:X.K=K:=by rfl):OpR X (eC .Add) (eZg K):=op_add.or (op_add_str.or ((dZg hK).or ((eZf hK).or (eZe hK))))
theorem fZj{b:Bool}:OpD K (eZg K) (addD b):=by
 intro F S H d e x y Q QD r hd he h c;have lists:(∃xs ys,lsIs S d xs/\lsIs S e ys/\xs.length+ys.length<=sizeLine/\newL b (xs++ys) S QD)->eZg K x y H Q:=by
  rintro⟨xs,ys,L,J,O,q⟩;obtain⟨a,us,rfl,s1,B⟩:=lsIs.sl r hd L;obtain⟨a2,us2,rfl,s2,p2⟩:=lsIs.sl r he J;exact .inr (.inr (.inr (.inr ⟨a,a2,us,us2,rfl,rfl,s1,s2,by rw[B.length,p2.length];exact O,λp D=>c.new r D (B.app p2) q⟩)))
 cases d with
 |int i =>
  cases e with
  |int j=>rw[rint hd,rint he];exact .inl ⟨i,j,rfl,rfl,c.int r h⟩
  |_=>exact lists h
 |str i =>
  cases e with
  |str j=>rw[rstr hd,rstr he];exact .inr (.inl ⟨i,j,rfl,rfl,h.1,c.str r h.2⟩)
  |_=>exact lists h
 |tup xs =>
  cases e with
  |tup ys =>
   obtain⟨a,us,rfl,s1,B⟩:=tup.st hd;obtain⟨a2,us2,rfl,s2,p2⟩:=tup.st he
   by_cases G:xs=[]
   ·subst G;unfold RepL at B;subst B;exact .inr (.inr (.inr (.inl ⟨a,a2,us2,rfl,rfl,s1,s2,c.here r he (by simpa using h.2)⟩)))
   ·refine .inr (.inr (.inl ⟨a,a2,us,us2,rfl,rfl,s1,s2,λz=>G ?_,by rw[B.length,p2.length];exact h.1,λz=>?_,λ_ p D=>c.tup r D (B.app p2) h.2⟩))
    ·have:=B.length;rw[z] at this;exact bU this.symm
    ·have h0:ys=[]:=by have:=p2.length;rw[z] at this;exact bU this.symm
     subst h0;exact c.here r hd (by simpa using h.2)
  |_=>exact lists h
 |_=>exact lists h
def iiD(C:Int->Int->Prop)(g:Int->Int->D):R2D:=λd e S Q=>match d,e with
 |.int i,.int j=>C i j/\Q (g i j) S
 |_,_=>False
theorem od_I{C:Int->Int->Prop}{g:Int->Int->Int}:OpD K (rI C λi j=>.int (g i j)) (iiD C λi j=>.int (g i j)):=by
 intro F S H d e x y Q QD r hd he h c;cases d with
 |int i =>
  cases e with
  |int j=>rw[rint hd,rint he];exact⟨i,j,rfl,rfl,h.1,c.int r h.2⟩
  |_=>exact h.elim
 |_=>exact h.elim
def iiD0(g:Int->Int->D):R2D:=λd e S Q=>match d,e with
 |.int i,.int j=>Q (g i j) S
 |_,_=>False
theorem fJz{g:Int->Int->Int}:OpD K (rI0 λi j=>.int (g i j)) (iiD0 λi j=>.int (g i j)):=by
 intro F S H d e x y Q QD r hd he h c;cases d with
 |int i =>
  cases e with
  |int j=>rw[rint hd,rint he];exact⟨i,j,rfl,rfl,c.int r h⟩
  |_=>exact h.elim
 |_=>exact h.elim
theorem dZo{g:Int->Int->Bool}:OpD K (rI0 λi j=>.bl (g i j)) (iiD0 λi j=>.bl (g i j)):=by
 intro F S H d e x y Q QD r hd he h c;cases d with
 |int i =>
  cases e with
  |int j=>rw[rint hd,rint he];exact⟨i,j,rfl,rfl,c.bl r h⟩
  |_=>exact h.elim
 |_=>exact h.elim
section
variable{a b:Expr}{ta tb:ED}{pos:Pos}
theorem aQw{k:Bool}(ha:PD K X a ta)(hb:PD K X b tb)(hK:X.K=K:=by rfl):PD K X (.BinOp a .Add b pos) (dOp (addD k) ta tb):=e_op (eZh hK) fZj ha hb
theorem dZp(ha:PD K X a ta)(hb:PD K X b tb):PD K X (.BinOp a .Sub b pos) (dOp (iiD0 λi j=>.int (i-j)) ta tb):=e_op fQ7 fJz ha hb
theorem bZt(ha:PD K X a ta)(hb:PD K X b tb):PD K X (.BinOp a .Mult b pos) (dOp (iiD CMul λi j=>.int (i*j)) ta tb):=e_op fQ8 od_I ha hb
theorem aJs(ha:PD K X a ta)(hb:PD K X b tb):PD K X (.BinOp a .Mod b pos) (dOp (iiD (λ_ j=>0<j) λi j=>.int (i%j)) ta tb):=e_op fQ9 od_I ha hb
theorem dJ8(ha:PD K X a ta)(hb:PD K X b tb):PD K X (.BinOp a .FloorDiv b pos) (dOp (iiD CDiv λi j=>.int (i/j)) ta tb):=e_op eQb od_I ha hb
theorem gQ0(ha:PD K X a ta)(hb:PD K X b tb):PD K X (.BinOp a .Pow b pos) (dOp (iiD CPow λi j=>.int (i^j.toNat)) ta tb):=e_op fQa od_I ha hb
end
def unD(g:Int->D):D->Sto->DK->Prop:=λd S Q=>match d with
 |.int i=>Q (g i) S
 |_=>False
def dUn(rd:D->Sto->DK->Prop)(ta:ED):ED:=fun Γ S Q=>ta Γ S λx S1=>rd x S1 Q
theorem gQ1{a:Expr}{ta:ED}{pos:Pos}(ha:PD K X a ta):PD K X (.UnaryOp .USub a pos) (dUn (unD λi=>.int (-i)) ta):=.of (fJk fQb ha.o) fun σ H Q B=>B.el λF S Γ QD r g q c =>
 ⟨F,S,Γ,_,r,g,q,λv d H1 U G J v1 j=>by
  cases d with
  |int i=>rw[rint v1];exact⟨i,rfl,Cn.int (λv z O L D=>c v z O L (G.trans D)) J j⟩
  |_=>exact j.elim⟩
def dNil:AD:=λ_ S Q=>Q [] S
def bJr(ta:ED)(tr:AD):AD:=fun Γ S Q=>ta Γ S λx S1=>tr Γ S1 λxs S2=>Q (x::xs) S2
theorem aQ1:PAD K X [] dNil:=.of aXu fun σ H Q d=>d.el λF S Γ QD r g q c=>c [] [] H S (Ext.refl _ _) r RepL.nil q
theorem aQ0{e:Expr}{es:List Expr}{te:ED}{t:AD}(ha:PD K X e te)(hr:PAD K X es t)(hs:au (e::es) X.env=(false,eval e X.env)::au es X.env:=by rfl):PAD K X (e::es) (bJr te t) :=
 .of (aX3 ha.o hr.o hs) fun σ H Q B=>B.el λF S Γ QD r g q c=>⟨F,S,Γ,_,r,g,q,λv d H1 U j G v1 L=>⟨F,U,Γ,_,G,g.ext j,L,λvs ds H2 O i D v2 J=>c (v::vs) (d::ds) H2 O (j.trans i) D (RepL.cons (v1.ext i) v2) J⟩⟩
def dTup(t:AD):ED:=fun Γ S Q=>t Γ S λds S1=>ds.length<=sizeLine/\Q (.tup ds) S1
def dLst(b:Bool)(t:AD):ED:=fun Γ S Q=>t Γ S λds S1=>ds.length<=sizeLine/\newL b ds S1 Q
theorem Cn.shift{F:Am}{S S1:Sto}{H H1:Hp}{QD:DK}{Q:VK}(c:∀v d H' S',Ext S H S' H'->Rp K F S' H'->RepV K (mt S' F) H' d v->QD d S'->Q v H')(x:Ext S H S1 H1):Cn K F S1 H1 QD Q:=λv z B j i=>c v z B j (x.trans i)
theorem aJ0{es:List Expr}{t:AD}{x1 pos}(h:PAD K X es t):PD K X (.Tuple es x1 pos) (dTup t):=.of (fQe h.o) fun σ H Q i=>i.el λF S Γ QD r g q c =>
 ⟨F,S,Γ,_,r,g,q,λvs ds H1 D x1 j v1 d=>⟨by rw[v1.length];exact d.1,λp B=>(Cn.shift c x1).tup j B v1 d.2⟩⟩
theorem aZr{b:Bool}{es:List Expr}{t:AD}{pos}(h:PAD K X es t):PD K X (.List es pos) (dLst b t):=.of (fQf h.o) fun σ H Q i=>i.el λF S Γ QD r g q c =>
 ⟨F,S,Γ,_,r,g,q,λvs ds H1 G j B v1 d=>⟨by rw[v1.length];exact d.1,λp D=>(Cn.shift c j).new B D v1 d.2⟩⟩
abbrev RCD:=List D->Sto->DK->Prop
def bXs(K:Fg)(r:List V->Hp->VK->Prop)(rd:RCD):Prop:=∀F S H ds vs Q QD,Rp K F S H->RepL K (mt S F) H ds vs->rd ds S QD->Cn K F S H QD Q->r vs H Q
def dCB(rd:RCD)(t:AD):ED:=fun Γ S Q=>t Γ S λds S1=>rd ds S1 Q
theorem fZk{r:List V->Hp->VK->Prop}{rd:RCD}{t:AD}(h:bXs K r rd):∀σ H Q,upE K (dCB rd t) σ H Q->tCB r (upA K t) σ H Q:=fun σ H Q d=>d.el λF S Γ QD r g q c =>
 ⟨F,S,Γ,_,r,g,q,λvs ds H1 D i j v1 B=>h F D H1 ds vs Q QD j v1 B (Cn.shift c i)⟩
theorem aXt{id:String}{r:List V->Hp->VK->Prop}{rd:RCD}{x:Str}{p pos:Pos}{e:Expr}{es:List Expr}{t:AD}(hc:CallR X (.builtin id) r)(h:bXs K r rd)(hg:Gl X x)(hm:X.mg x=none)(hv:bH x=some (.builtin id))(ha:PAD K X (e::es) t)(hn:x ≠ "__name__":=by decide)(hdb:(x==("__debug__":Str))=false:=by decide)
  (he:au (e::es) X.env=(false,eval e X.env)::au es X.env:=by rfl) (hpl:(cD pos (au es X.env)).any (·.1)=false:=by rfl):PD K X (.Call (.Name x p) (e::es) [] pos) (dCB rd t):=.of (aXi hc hg hm hv ha.o hn hdb he hpl) (fZk h)
theorem cQu{T:String}{r:List V->Hp->VK->Prop}{rd:RCD}{x:Str}{p pos:Pos}{e:Expr}{es:List Expr}{t:AD}(hc:CallR X (.type T) r)(h:bXs K r rd)(hg:Gl X x)(hm:X.mg x=none)(hv:bH x=some (.type T))(ha:PAD K X (e::es) t)(hn:x ≠ "__name__":=by decide)(hdb:(x==("__debug__":Str))=false:=by decide)
  (he:au (e::es) X.env=(false,eval e X.env)::au es X.env:=by rfl) (hpl:(cD pos (au es X.env)).any (·.1)=false:=by rfl):PD K X (.Call (.Name x p) (e::es) [] pos) (dCB rd t):=.of (aXv hc hg hm hv ha.o hn hdb he hpl) (fZk h)
end
mutual
def beqD:D->D->Bool
 |.non,.non=>true
 |.bl a,.bl b=>a==b
 |.int a,.int b=>decide (a=b)
 |.str a,.str b=>decide (a=b)
 |.ty a,.ty b=>decide (a=b)
 |.ref a,.ref b=>decide (a=b)
 |.tup a,.tup b=>bJs a b
 |.lst a,.lst b=>bJs a b
 |_,_=>false
def bJs:List D->List D->Bool
 |[],[]=>true
 |a::as,b::bs=>beqD a b&&bJs as bs
 |_,_=>false
end
theorem bqE{α:Type}[BEq α][LawfulBEq α]{c:α->D}(inj:∀x y,c x=c y->x=y)(x y:α):(x==y)=true↔c x=c y:=⟨λh=>congrArg c (beq_iff_eq.mp h),λh=>beq_iff_eq.mpr (inj x y h)⟩
theorem bdE{α:Type}{c:α->D}(inj:∀x y,c x=c y->x=y)(x y:α){d:Decidable (x=y)}:@decide (x=y) d=true↔c x=c y:=⟨λh=>congrArg c (of_decide_eq_true h),λh=>decide_eq_true (inj x y h)⟩
theorem bnE{p:Prop}(h:¬ p):false=true↔p:=⟨λz=>absurd z ce,λz=>absurd z h⟩
mutual
theorem cJi:∀{a b:D},beqD a b=true↔a=b
 |.non,b=>by
  cases b with
  |non=>exact⟨λ_=>rfl,λ_=>rfl⟩
  |_=>exact bnE (λh=>by cases h)
 |.bl x,b=>by
  cases b with
  |bl y=>exact bqE (λ_ _ h=>by injection h) x y
  |_=>exact bnE (λh=>by cases h)
 |.int x,b=>by
  cases b with
  |int y=>exact bdE (λ_ _ h=>by injection h) x y
  |_=>exact bnE (λh=>by cases h)
 |.str x,b=>by
  cases b with
  |str y=>exact bdE (λ_ _ h=>by injection h) x y
  |_=>exact bnE (λh=>by cases h)
 |.ty x,b=>by
  cases b with
  |ty y=>exact bdE (λ_ _ h=>by injection h) x y
  |_=>exact bnE (λh=>by cases h)
 |.ref x,b=>by
  cases b with
  |ref y=>exact bdE (λ_ _ h=>by injection h) x y
  |_=>exact bnE (λh=>by cases h)
 |.tup as,b=>by
  cases b with
  |tup bs=>exact beqDs_eq.trans ⟨λh=>congrArg D.tup h,λh=>by injection h⟩
  |_=>exact bnE (λh=>by cases h)
 |.lst as,b=>by
  cases b with
  |lst bs=>exact beqDs_eq.trans ⟨λh=>congrArg D.lst h,λh=>by injection h⟩
  |_=>exact bnE (λh=>by cases h)
theorem beqDs_eq:∀{a b:List D},bJs a b=true↔a=b
 |[],b=>by cases b <;> simp[bJs]
 |a::as,[]=>by simp[bJs]
 |a::as,b::bs=>by
  simp only[bJs,aL,List.cons.injEq];rw[cJi,beqDs_eq]
end
instance:DecidableEq D:=λa b=>decidable_of_iff _ (cJi (a:=a) (b:=b))
def okE:Nat->D->D->Bool
 |_,.int _,.int _=>true
 |_,.str _,.str _=>true
 |_,.bl _,.bl _=>true
 |_,.non,.non=>true
 |_,.non,.int _=>true
 |_,.int _,.non=>true
 |_,.non,.str _=>true
 |_,.str _,.non=>true
 |n+1,.non,.tup _=>true
 |n+1,.tup _,.non=>true
 |n+1,.tup xs,.tup ys=>(xs.zip ys).all λp=>okE n p.1 p.2
 |n+1,.lst xs,.lst ys=>(xs.zip ys).all λp=>okE n p.1 p.2
 |_,_,_=>false
abbrev okEs(n:Nat)(xs ys:List D):Bool:=(xs.zip ys).all λp=>okE n p.1 p.2
section
variable{X:Cx}{pins:List (Addr×Obj)}{σ:St}{H:Hp}{s:aj}{M:Am}
structure Eq3(A:bi)(s:aj)(u v:ad)(b:Bool):Prop where
 eq:dw A s u v b
 rc:SeqAt.RcAt A s u v b
 ne:cP A s u v (!b)
theorem eZi{xs ys:List D}:decide (D.tup xs=D.tup ys)=decide (xs=ys):=by simp
theorem eZj{xs ys:List D}:decide (D.lst xs=D.lst ys)=decide (xs=ys):=by simp
theorem eZk{xs ys:List D}{j:Nat}{a b:D}(h1:xs[j]?=some a)(h2:ys[j]?=some b):(a,b)∈xs.zip ys:=by
 have i:j<xs.length:=by
  rcases Nat.lt_or_ge j xs.length with z|z
  ·exact z
  ·rw[bY z] at h1;cases h1
 have d:j<ys.length:=by
  rcases Nat.lt_or_ge j ys.length with z|z
  ·exact z
  ·rw[bY z] at h2;cases h2
 have J:xs[j]=a:=by rw[ag i] at h1;exact aN h1
 have G:ys[j]=b:=by rw[ag d] at h2;exact aN h2
 have B:j<(xs.zip ys).length:=by rw[List.length_zip];lia
 have:(xs.zip ys)[j]=(a,b):=by rw[List.getElem_zip,J,G]
 rw[<- this];exact dD B
theorem dJ9{n:Nat}{xs ys:List V}{us vs:List ad}{ds es:List D}{A:bi}(p:RepL X.K M H ds xs)(p':RepL X.K M H es ys)(r:Vals xs us)(r':Vals ys vs)(hz:okEs n ds es=true)
  (ih:∀{d e:D}{x y:V}{u v:ad},RepV X.K M H d x->RepV X.K M H e y->RelV x u->RelV y v->okE n d e=true->Eq3 A s u v (decide (d=e))) :
  ∀j (h1:j<us.toArray.size) (h2:j<vs.toArray.size),dw A s us.toArray[j] vs.toArray[j] (decide (ds[j]?=es[j]?)):=by
 intro j h1 h2;simp only[aq] at h1 h2;have J:j<xs.length:=by have:=r.length;lia
 have G:j<ys.length:=by have:=r'.length;lia
 obtain⟨d,U,rd⟩:=p.get' (ag J);obtain⟨e,O,re⟩:=p'.get' (ag G);obtain⟨u,L,Z⟩:=r.get (ag J);obtain⟨v,ev,Y⟩:=r'.get (ag G);have B:us[j]=u:=by rw[ag h1] at L;exact aN L
 have i:vs[j]=v:=by rw[ag h2] at ev;exact aN ev
 have:decide (ds[j]?=es[j]?)=decide (d=e):=by rw[U,O];simp
 rw[this];simp only[List.getElem_toArray];rw[B,i];exact(ih rd re Z Y (bB.mp hz _ (eZk U O))).eq
theorem dJa{n:Nat}{a b:Addr}{xs ys:List V}{ds es:List D}{A:bi}(I:Inv X pins σ H s)(q:SqL X.K H a xs)(q':SqL X.K H b ys)(p:RepL X.K M H ds xs)(p':RepL X.K M H es ys)(hz:okEs n ds es=true)(hu:A.units+(n+1)<cQ)
  (ih:∀{d e:D}{x y:V}{u v:ad},RepV X.K M H d x->RepV X.K M H e y->RelV x u->RelV y v->okE n d e=true->Eq3 A.in1 s u v (decide (d=e))) :
  SeqAt.RcAt A s (.ref a) (.ref b) (decide (ds=es))/\cP A s (.ref a) (.ref b) (!decide (ds=es)):=by
 obtain⟨us,O,pl,_⟩:=I.list q;obtain⟨vs,L,i,_⟩:=I.list q';have l1:=p.length;have Z:=p'.length;have Y:=O.length;have U:=L.length;have it:=dJ9 (A:=A.in1) p p' O L hz ih
 by_cases hl:ds.length=es.length
 ·have B:us.toArray.size=vs.toArray.size:=by rw[aq,aq];lia
  have J:((aI (us.toArray.size)).all λj=>decide (ds[j]?=es[j]?))=decide (ds=es):=by
   have:=cXt ds es us.toArray.size vs.toArray.size (by rw[aq];lia) (by rw[aq];lia)
   rw[B,Nat.min_self] at this;rw[B,<- this];simp
  have h1:=SeqAt.RcAt.lists (e:=λj=>decide (ds[j]?=es[j]?)) pl.isList i.isList B (show A.units<cQ by lia) λj h1 h2=>it j h1 h2
  have h2:=cP.lists (e:=λj=>decide (ds[j]?=es[j]?)) pl.isList i.isList B (show A.units<cQ by lia) λj h1 h2=>it j h1 h2
  rw[J] at h1 h2;exact⟨h1,h2⟩
 ·have B:(us.toArray.size !=vs.toArray.size)=true:=by rw[aq,aq];simp;lia
  have G:ds≠es:=λe=>hl (by rw[e])
  rw[decide_eq_false G];exact⟨SeqAt.RcAt.lists_lengths pl.isList i.isList B (by lia),cP.lists_lengths pl.isList i.isList B (by lia)⟩
theorem eZl{n:Nat}(ih:∀{d e:D}{v:V},RepV X.K M H d v->RepV X.K M H e v->okE n d e=true->d=e):∀{ds es:List D}{xs:List V},RepL X.K M H ds xs->RepL X.K M H es xs->okEs n ds es=true->ds=es
 |[],[],_,_,_,_=>rfl
 |[],e::es,xs,p,i,_=>by have h1:=p.length;have h2:=i.length;rw[h1] at h2;simp at h2
 |d::ds,[],xs,p,i,_=>by have h1:=p.length;have h2:=i.length;rw[h1] at h2;simp at h2
 |d::ds,e::es,xs,p,i,h=>by
  unfold RepL at p i;obtain⟨v,vs,rfl,r,l⟩:=p;obtain⟨J,j,e1,B,G⟩:=i;cases e1;simp only[okEs,fw,ik,aL] at h;rw[ih r B h.1,eZl ih l G h.2]
theorem uniq(I:Inv X pins σ H s):∀(n:Nat) {d e:D}{v:V},RepV X.K M H d v->RepV X.K M H e v->okE n d e=true->d=e:=by
 intro n
 induction n with
 |zero =>
  intro d e v h h' o;cases d <;> cases e <;> first|rfl|(cases o;done)|(unfold RepV at h h';rw[h] at h';cases h';done)|(unfold RepV at h h';rw[h] at h';cases h';rfl)
 |succ n B =>
  intro d e v h h' o;cases d <;> cases e <;> first|rfl|(cases o;done)|(unfold RepV at h h';rw[h] at h';cases h';done)|(unfold RepV at h h';rw[h] at h';cases h';rfl)|skip
  ·unfold RepV at h h';obtain⟨a,xs,e1,_⟩:=h';rw[h] at e1;cases e1
  ·unfold RepV at h h';obtain⟨a,xs,e1,_⟩:=h;rw[h'] at e1;cases e1
  ·unfold RepV at h h';obtain⟨a,xs,rfl,t,l⟩:=h;obtain⟨b,ys,e1,i,j⟩:=h';cases e1
   have:=I.tuple_inj t.sq i.sq
   subst this;rw[eZl B l j o]
  ·unfold RepV at h h';obtain⟨a,xs,rfl,t,l⟩:=h;obtain⟨b,ys,e1,i,j⟩:=h';cases e1
   have:=I.list_inj t.sq i.sq
   subst this;rw[eZl B l j o]
theorem eq3(I:Inv X pins σ H s):∀(n:Nat) {A:bi}{d e:D}{x y:V}{u v:ad},A.units+n<cQ->RepV X.K M H d x->RepV X.K M H e y->RelV x u->RelV y v->okE n d e=true->Eq3 A s u v (decide (d=e)):=by
 intro n
 induction n with
 |zero =>
  intro A d e x y u v hu h h' r r' o;cases d <;> cases e <;> first|(cases o;done)|skip
  all_goals unfold RepV at h h';subst h;subst h'
  ·cases r;cases r';exact⟨j9 _,SeqAt.RcAt.none_none,cP.none_none⟩
  ·cases r;obtain⟨t,rfl⟩:=r';exact⟨dw.none_int _ _,SeqAt.RcAt.none_int _ _,cP.none_int _ _⟩
  ·cases r;obtain⟨t,rfl⟩:=r';exact⟨dw.none_str _ _,SeqAt.RcAt.none_str _ _,cP.none_str _ _⟩
  ·cases r;cases r';rw[show ∀a b:Bool,decide (D.bl a=D.bl b)=(a==b) from by intro a b;cases a <;> cases b <;> rfl];exact⟨dw.bool_bool _ _,SeqAt.RcAt.bool_bool _ _,cP.bool_bool _ _⟩
  ·obtain⟨t,rfl⟩:=r;cases r';exact⟨dw.int_none _ _,SeqAt.RcAt.int_none _ _,cP.int_none _ _⟩
  ·obtain⟨t,rfl⟩:=r;obtain⟨G,rfl⟩:=r';rw[show ∀a b:Int,decide (D.int a=D.int b)=(a==b) from by intro a b;rw[beq_dec];simp];exact⟨dw.int_int _ _ _ _,SeqAt.RcAt.int_int _ _ _ _,cP.int_int _ _ _ _⟩
  ·obtain⟨t,rfl⟩:=r;cases r';exact⟨dw.str_none _ _,SeqAt.RcAt.str_none _ _,cP.str_none _ _⟩
  ·obtain⟨t,rfl⟩:=r;obtain⟨G,rfl⟩:=r';rw[show ∀a b:Str,decide (D.str a=D.str b)=(a==b) from by intro a b;rw[beq_dec];simp];exact⟨iZ _ _ _ _,SeqAt.RcAt.str_str _ _ _ _,cP.str_str _ _ _ _⟩
 |succ n j =>
  intro A d e x y u v hu h h' r r' o;cases d <;> cases e <;> first|(cases o;done)|skip
  ·exact j (by lia) h h' r r' (by cases n <;> rfl)
  ·exact j (by lia) h h' r r' (by cases n <;> rfl)
  ·exact j (by lia) h h' r r' (by cases n <;> rfl)
  ·unfold RepV at h;subst h;cases r;obtain⟨a,xs,rfl,t,l⟩:=(show RepV X.K M H (.tup _) y from h')
   cases r';obtain⟨us,L,pl,_⟩:=I.tuple t.sq;exact⟨dw.none_tuple pl (by lia),SeqAt.RcAt.none_tuple pl (by lia),cP.none_tuple pl (by lia)⟩
  ·exact j (by lia) h h' r r' (by cases n <;> rfl)
  ·exact j (by lia) h h' r r' (by cases n <;> rfl)
  ·exact j (by lia) h h' r r' (by cases n <;> rfl)
  ·exact j (by lia) h h' r r' (by cases n <;> rfl)
  ·exact j (by lia) h h' r r' (by cases n <;> rfl)
  ·unfold RepV at h';subst h';cases r';obtain⟨a,xs,rfl,t,l⟩:=(show RepV X.K M H (.tup _) x from h)
   cases r;obtain⟨us,L,pl,_⟩:=I.tuple t.sq;exact⟨dw.tuple_none pl (by lia),SeqAt.RcAt.tuple_none pl (by lia),cP.tuple_none pl (by lia)⟩
  ·rename_i ds es;have un:=λ{e:D}=>uniq (e:=e) I (n+1) h;have h0:=h;have B:=h';unfold RepV at h h';obtain⟨a,xs,rfl,t,l⟩:=h;obtain⟨b,ys,rfl,G,O⟩:=h';cases r;cases r';obtain⟨us,L,pl,_⟩:=I.tuple t.sq;obtain⟨vs,rv,J,_⟩:=I.tuple G.sq;have l1:=l.length;have l2:=O.length;have l3:=L.length;have l4:=rv.length;have it:=dJ9 (A:=A.in1) l O L rv o λq Y z U o=>j (show A.units+1+n<cQ by lia) q Y z U o
   have Z:=cXt ds es us.toArray.size vs.toArray.size (by rw[aq];lia) (by rw[aq];lia)
   have h1:=SeqAt.RcAt.tuples pl J (show A.units<cQ by lia) it
   have h2:=cP.tuples pl J (show A.units<cQ by lia) it
   rw[Z] at h1 h2;rw[eZi];refine⟨?_,h1,h2⟩
   by_cases i:a=b
   ·subst i;have e1:=un B o;cases e1;rw[decide_eq_true rfl];exact j9 _
   ·exact kB i h1
  ·have un:=λ{e:D}=>uniq (e:=e) I (n+1) h;have B:=h';unfold RepV at h h';obtain⟨a,xs,rfl,t,l⟩:=h;obtain⟨b,ys,rfl,G,O⟩:=h';cases r;cases r';obtain⟨h1,h2⟩:=dJa (A:=A) (n:=n) I t.sq G.sq l O o hu λq Y z U o=>j (show A.units+1+n<cQ by lia) q Y z U o
   rw[eZj];refine⟨?_,h1,h2⟩
   by_cases i:a=b
   ·subst i;have e1:=un B o;cases e1;rw[decide_eq_true rfl];exact j9 _
   ·exact kB i h1
def eqD(neg:Bool):R2D:=λd e S Q=>match d,e with
 |.ref a,e=>∃xs ys,S a=some (.lst xs)/\lsIs S e ys/\okEs 8 xs ys=true/\Q (.bl (if neg then !decide (xs=ys) else decide (xs=ys))) S
 |.lst xs,.ref a=>∃ys,S a=some (.lst ys)/\okEs 8 xs ys=true/\Q (.bl (if neg then !decide (xs=ys) else decide (xs=ys))) S
 |d,e=>okE 9 d e=true/\Q (.bl (if neg then !decide (d=e) else decide (d=e))) S
def rEqA(K:Fg)(neg:Bool):R2:=λx y H Q=>∃b,(∀{X:Cx}{pins:List (Addr×Obj)}{σ:St}{s:aj},Inv X pins σ H s->X.K=K->∀{u v:ad},RelV x u->RelV y v->∀A:bi,A.units+9<cQ->SeqAt.RcAt A s u v b/\cP A s u v (!b))/\Q (.bl (if neg then !b else b)) H
theorem dJb{K:Fg}(hu:X.A.units+9<cQ)(hK:X.K=K:=by rfl):OpR X (cu .Eq) (rEqA K false):=by
 intro pins s σ H x y v u Q I i d ⟨b,h,q⟩;exact(h I hK i d X.A hu).1 _ _ _ _ ⟨.bl b,H,I,rfl,q⟩
theorem fZl{K:Fg}(hu:X.A.units+9<cQ)(hK:X.K=K:=by rfl):OpR X (cu .NotEq) (rEqA K true):=by
 intro pins s σ H x y v u Q I i d ⟨b,h,q⟩;exact(h I hK i d X.A hu).2 _ _ _ _ ⟨.bl (!b),H,I,rfl,q⟩
theorem eZm{K:Fg}{neg:Bool}:OpD K (rEqA K neg) (eqD neg):=by
 intro F S H d e x y Q QD r hd he h c;have lists:∀{xs ys:List D},lsIs S d xs->lsIs S e ys->okEs 8 xs ys=true->QD (.bl (if neg then !decide (xs=ys) else decide (xs=ys))) S->rEqA K neg x y H Q:=by
  intro xs ys Y U o q;obtain⟨a,us,rfl,s1,O⟩:=lsIs.sl r hd Y;obtain⟨a2,us2,rfl,s2,p2⟩:=lsIs.sl r he U;refine⟨_,λ{X pins σ s} I i u v ru rv A j=>?_,c.bl r q⟩;subst i;cases ru;cases rv;exact dJa I s1 s2 O p2 o j λq L z J o=>eq3 I 8 (show A.units+1+8<cQ by lia) q L z J o
 have plain:okE 9 d e=true->QD (.bl (if neg then !decide (d=e) else decide (d=e))) S->rEqA K neg x y H Q:=by
  intro o q;refine⟨_,λ{X pins σ s} I i u v ru rv A j=>?_,c.bl r q⟩;subst i
  have:=eq3 I 9 j hd he ru rv o
  exact⟨this.rc,this.ne⟩
 cases d with
 |ref a=>obtain⟨xs,ys,h1,h2,G,B⟩:=h;exact lists h1 h2 G B
 |lst xs =>
  cases e with
  |ref a=>obtain⟨ys,h2,G,B⟩:=h;exact lists rfl h2 G B
  |_=>exact plain h.1 h.2
 |_=>exact plain h.1 h.2
mutual
def plain:D->Bool
 |.non=>true
 |.bl _=>true
 |.int _=>true
 |.str _=>true
 |.tup xs=>aZx xs
 |_=>false
def aZx:List D->Bool
 |[]=>true
 |x::xs=>plain x&&aZx xs
end
mutual
theorem cQv(I:Inv X pins σ H s):∀{d e:D}{v:V},plain d=true->plain e=true->RepV X.K M H d v->RepV X.K M H e v->d=e
 |.tup ds,e,v,p,p',h,h'=>by
  cases e with
  |tup es =>
   unfold RepV at h h';obtain⟨a,xs,rfl,t,l⟩:=h;obtain⟨b,ys,e1,i,j⟩:=h';cases e1
   have:=I.tuple_inj t.sq i.sq
   subst this;unfold plain at p p';rw[bXt I p p' l j]
  |lst _=>cases p'
  |ref _=>cases p'
  |ty _=>cases p'
  |_ =>
   unfold RepV at h h';obtain⟨a,xs,e1,_⟩:=h;rw[h'] at e1;cases e1
 |.non,e,v,p,p',h,h'=>by
  cases e <;> first|rfl|(cases p';done)|(unfold RepV at h h';rw[h] at h';cases h';done)|(unfold RepV at h h';obtain⟨a,xs,e1,_⟩:=h';rw[h] at e1;cases e1)
 |.bl _,e,v,p,p',h,h'=>by
  cases e <;> first|(cases p';done)|(unfold RepV at h h';rw[h] at h';cases h';done)|(unfold RepV at h h';rw[h] at h';cases h';rfl)|(unfold RepV at h h';obtain⟨a,xs,e1,_⟩:=h';rw[h] at e1;cases e1)
 |.int _,e,v,p,p',h,h'=>by
  cases e <;> first|(cases p';done)|(unfold RepV at h h';rw[h] at h';cases h';done)|(unfold RepV at h h';rw[h] at h';cases h';rfl)|(unfold RepV at h h';obtain⟨a,xs,e1,_⟩:=h';rw[h] at e1;cases e1)
 |.str _,e,v,p,p',h,h'=>by
  cases e <;> first|(cases p';done)|(unfold RepV at h h';rw[h] at h';cases h';done)|(unfold RepV at h h';rw[h] at h';cases h';rfl)|(unfold RepV at h h';obtain⟨a,xs,e1,_⟩:=h';rw[h] at e1;cases e1)
 |.ty _,e,v,p,p',h,h'=>by cases p
 |.ref _,e,v,p,p',h,h'=>by cases p
 |.lst _,e,v,p,p',h,h'=>by cases p
theorem bXt(I:Inv X pins σ H s):∀{ds es:List D}{vs:List V},aZx ds=true->aZx es=true->RepL X.K M H ds vs->RepL X.K M H es vs->ds=es
 |[],es,vs,p,j,l,i=>by
  have h1:=l.length;have h2:=i.length;rw[h1] at h2;exact(bU h2.symm).symm
 |d::ds,[],vs,p,j,l,i=>by have h1:=l.length;have h2:=i.length;rw[h1] at h2;simp at h2
 |d::ds,e::es,vs,p,j,l,i=>by
  unfold RepL at l i;obtain⟨v,vs,rfl,r,l⟩:=l;obtain⟨J,B,e1,G,i⟩:=i;cases e1;simp only[aZx,aL] at p j;rw[cQv I p.1 j.1 r G,bXt I p.2 j.2 l i]
end
theorem aJg:∀{ds:List D},aZx ds=true->∀d∈ds,plain d=true
 |[],_,d,h=>by cases h
 |x::ds,p,d,h=>by
  simp only[aZx,aL] at p;rcases aA.mp h with rfl|h
  ·exact p.1
  ·exact aJg p.2 d h
def rInA(K:Fg)(neg:Bool):R2:=λx y H Q=>∃p xs b,y=.ref p/\(SqL K H p xs\/SqT K H p xs) /\
 (∀{X:Cx}{pins:List (Addr×Obj)}{σ:St}{s:aj},Inv X pins σ H s->X.K=K->∀{v:ad}{us:List ad},RelV x v->Vals xs us->∀A:bi,A.units+9<cQ->∃f:ad->Bool,(∀u∈us,dw A s u v (f u))/\us.any f=b)/\Q (.bl (if neg then !b else b)) H
theorem dJc{K:Fg}(hu:X.A.units+10<cQ)(hK:X.K=K:=by rfl):OpR X (cu .In) (rInA K false):=by
 intro pins s σ H x y v u Q I j ry h;obtain⟨p,xs,b,rfl,i,hf,q⟩:=h;cases ry;rw[<- hK] at i;rcases i with i|i
 ·obtain⟨d,r,pl,B⟩:=I.list i;obtain⟨f,f1,f2⟩:=hf I hK j r X.A.in1 (show X.A.units+1+9<cQ by lia)
  refine SeqAt.in_listAt f pl.isList (λw hw=>f1 w (by simpa using hw)) ⟨.bl _,H,I,rfl,?_⟩
  rw[show d.toArray.any f=d.any f by simp,f2]
  exact q
 ·obtain⟨d,r,pl,B⟩:=I.tuple i;obtain⟨f,f1,f2⟩:=hf I hK j r X.A.in1 (show X.A.units+1+9<cQ by lia)
  refine SeqAt.in_tupleAt f pl (λw hw=>f1 w (by simpa using hw)) ⟨.bl _,H,I,rfl,?_⟩
  rw[show d.toArray.any f=d.any f by simp,f2]
  exact q
theorem eZn{K:Fg}(hu:X.A.units+10<cQ)(hK:X.K=K:=by rfl):OpR X (cu .NotIn) (rInA K true):=by
 intro pins s σ H x y v u Q I j ry h;obtain⟨p,xs,b,rfl,i,hf,q⟩:=h;cases ry;rw[<- hK] at i;rcases i with i|i
 ·obtain⟨d,r,pl,B⟩:=I.list i;obtain⟨f,f1,f2⟩:=hf I hK j r X.A.in1 (show X.A.units+1+9<cQ by lia)
  refine SeqAt.notIn_listAt f pl.isList (λw hw=>f1 w (by simpa using hw)) ⟨.bl _,H,I,rfl,?_⟩
  rw[show d.toArray.any f=d.any f by simp,f2]
  exact q
 ·obtain⟨d,r,pl,B⟩:=I.tuple i;obtain⟨f,f1,f2⟩:=hf I hK j r X.A.in1 (show X.A.units+1+9<cQ by lia)
  refine SeqAt.notIn_tupleAt f pl (λw hw=>f1 w (by simpa using hw)) ⟨.bl _,H,I,rfl,?_⟩
  rw[show d.toArray.any f=d.any f by simp,f2]
  exact q
def inD(neg:Bool):R2D:=λd e S Q=>∃xs,sqIs S e xs/\aZx xs=true/\(xs.all λy=>okE 8 y d)=true/\Q (.bl (if neg then !decide (d∈xs) else decide (d∈xs))) S
theorem fZm(I:Inv X pins σ H s){d:D}{x:V}{v:ad}(rx:RelV x v)(hd:RepV X.K M H d x){A:bi}(hA:A.units+9<cQ):∀{xs:List V}{us:List ad}{ds:List D},RepL X.K M H ds xs->Vals xs us->aZx ds=true->(ds.all λy=>okE 8 y d)=true ->
  ∃f:ad->Bool,(∀u∈us,dw A s u v (f u))/\us.any f=decide (d∈ds):=by
 classical
 intro xs us ds l r p o;have key:∀{y:V}{u:ad}{e:D},e∈ds->RepV X.K M H e y->RelV y u->decide (∃y e,e∈ds/\RepV X.K M H e y/\RelV y u/\e=d)=decide (e=d):=by
  intro y u e hm he j
  congr 1
  refine propext ⟨λ⟨y',Z,G,h1,h2,U⟩=>?_,λh=>⟨y,e,hm,he,j,h⟩⟩
  have:=h2.inj j
  subst this;rw[<- U];exact cQv I (aJg p e hm) (aJg p Z G) he h1
 refine⟨λu=>decide (∃y e,e∈ds/\RepV X.K M H e y/\RelV y u/\e=d),?_,?_⟩
 ·intro u O;obtain⟨i,hi,rfl⟩:=bn O;have h1:=r.length;have h2:=l.length;obtain⟨e,Y,re⟩:=l.get' (ag (show i<xs.length by lia))
  obtain⟨u',eu,j⟩:=r.get (ag (show i<xs.length by lia))
  rw[ag hi] at eu;cases eu;have hm:e∈ds:=ak Y;show dw A s us[i] v (decide (∃y e,e∈ds/\RepV X.K M H e y/\RelV y us[i]/\e=d));rw[key hm re j];exact(eq3 I 8 (by lia) re hd j rx (bB.mp o e hm)).eq
 ·have gen:∀{zs:List V}{ws:List ad}{es:List D},RepL X.K M H es zs->Vals zs ws->(∀e∈es,e∈ds)->ws.any (λu=>decide (∃y e,e∈ds/\RepV X.K M H e y/\RelV y u/\e=d))=decide (d∈es):=by
   intro zs ws es
   induction es generalizing zs ws with
   |nil =>
    intro l r _;unfold RepL at l;subst l;cases r;simp
   |cons e es L =>
    intro l r hm;unfold RepL at l;obtain⟨z,zs,rfl,B,J⟩:=l;cases r with
    |cons q t =>
     rw[jw,key (hm e ao) B q,L J t λe he=>hm e (am _ he)]
     by_cases h:e=d
     ·simp[h]
     ·have h':¬ d=e:=λz=>h z.symm;simp[h,h']
  exact gen l r λ_ h=>h
theorem eZo{K:Fg}{neg:Bool}:OpD K (rInA K neg) (inD neg):=by
 intro F S H d e x y Q QD r hd he ⟨ds,B,p,o,q⟩ c;obtain⟨a,xs,rfl,sq,l⟩:=B.sq r he;refine⟨a,xs,decide (d∈ds),rfl,sq,λ{X pins σ s} I D {v us} i j A G=>?_,c.bl r q⟩;subst D;exact fZm I i hd G l j p o
variable{K:Fg}{a b:Expr}{ta tb:ED}{pos:Pos}{k:Nat}
theorem lt10{n:Nat}{A:bi}(r:Room k A)(h:n<=64:=by decide):A.units+n<cQ:=by have:=r.units;lia
theorem e_eq(hr:Room k X.A)(ha:PD K X a ta)(hb:PD K X b tb)(hK:X.K=K:=by rfl):PD K X (.Compare a [.Eq] [b] pos) (dOp (eqD false) ta tb):=eZd (dJb (lt10 hr) hK) eZm ha hb (nomark _)
theorem bZu(hr:Room k X.A)(ha:PD K X a ta)(hb:PD K X b tb)(hK:X.K=K:=by rfl):PTD K X (.Compare a [.Eq] [b] pos) (aXy (dOp (eqD false) ta tb)):=aXz (dJb (lt10 hr) hK) eZm ha hb (nomark _)
theorem fZn(hr:Room k X.A)(ha:PD K X a ta)(hb:PD K X b tb)(hK:X.K=K:=by rfl):PTD K X (.Compare a [.NotEq] [b] pos) (aXy (dOp (eqD true) ta tb)):=aXz (fZl (lt10 hr) hK) eZm ha hb (nomark _)
theorem e_in(hr:Room k X.A)(ha:PD K X a ta)(hb:PD K X b tb)(hm:d7 .In b=false:=by rfl)(hK:X.K=K:=by rfl):PD K X (.Compare a [.In] [b] pos) (dOp (inD false) ta tb):=eZd (dJc (lt10 hr) hK) eZo ha hb hm
theorem eZp(hr:Room k X.A)(ha:PD K X a ta)(hb:PD K X b tb)(hm:d7 .In b=false:=by rfl)(hK:X.K=K:=by rfl):PTD K X (.Compare a [.In] [b] pos) (aXy (dOp (inD false) ta tb)):=aXz (dJc (lt10 hr) hK) eZo ha hb hm
theorem cJj(hr:Room k X.A)(ha:PD K X a ta)(hb:PD K X b tb)(hm:d7 .NotIn b=false:=by rfl)(hK:X.K=K:=by rfl):PTD K X (.Compare a [.NotIn] [b] pos) (aXy (dOp (inD true) ta tb)):=aXz (eZn (lt10 hr) hK) eZo ha hb hm
end
end L2
namespace HT
open PySem PySem.Spec PyProof.Rows
section
variable{prog:aD}{w:aR}{A:bi}{E:ad->aj->Prop}{s:aj}
theorem tup_slice{t sl:Addr}{items:Array ad}{Q:ad->aj->Prop}(ht:IsTup s.heap t items)(hTs:s.TypeIs (.ref sl) "slice")
    (h:∀ A,aH (aF prog w) A (fJ (.ref sl) (pure (items.size:Int))) (λr s'=>s'=s /\
      ((r.1=0 /\ r.2.1=1 /\ r.2.2=items.size /\ Q (.ref t) s) \/
       (¬ (r.1==0&&r.2.1==1&&r.2.2==items.size)=true/\sizeOk (.seq ((aI r.2.2).filterMap λ(k:Nat)=>items[(r.1+(k:Int)*r.2.1).toNat]?).toArray)/\Q (.ref s.heap.objs.size) {s with heap:=s.heap.push {cls:=.type "tuple",data:=.seq ((aI r.2.2).filterMap λ(k:Nat)=>items[(r.1+(k:Int)*r.2.1).toNat]?).toArray}}))) E s) :
    aH (aF prog w) A (jU (.ref t) (.ref sl)) Q E s:=by
  unfold jU
  try with_reducible refine bG ?_
  first|refine aa (af ?_)|skip
  refine aa (wpAny_sequenceKey ht.typeIs (by decide) ?_)
  refine aa (cj (name:=aP "__getitem__") ht.typeIs cF
    (b9 cF ht.typeIs entry_tuple_getitem ?_ (args_tuple_getitem _ _)))
  show aH _ _ (iQ (.ref t)>>=_) _ _ s;refine aa (tupleItemsOf_ ht (aa (gI hTs ?_)));rw [if_pos (by decide)]
  refine aa (eA (h _) (λr s' ⟨e,q⟩=>?_) λ_ _ x=>x);subst e;obtain⟨lo,st,n⟩:=r;show aH _ _ (if (lo==0&&st==1&&n==items.size)=true then _ else _) _ _ _
  rcases q with⟨h1,h2,j,q⟩|⟨i,d,q⟩
  · have G:lo=0:=h1
    have D:st=1:=h2;have B:n=items.size:=j;rw [if_pos (by rw [G,D,B]; simp)]
    unfold cI.Tuple.tupleIsExact;refine aa (aa (gI ht.typeIs (af ?_)));rw [if_pos (by decide)]
    refine aa (db ?_)
    first
      |exact af ⟨_,rfl,af q⟩
      |exact aa (af ⟨_,rfl,af q⟩)
      |exact aa (af (af ⟨_,rfl,af q⟩))
  · rw [if_neg i]
    first
      |exact aa (m:=cE _) (bz (af ⟨_,rfl,af q⟩) d)
      |exact aa (m:=cE _) (bz (aa (af (af ⟨_,rfl,af q⟩))) d)
      |exact aa (aa (m:=cE _) (bz (af (af ⟨_,rfl,af q⟩)) d))
      |exact aa (aa (m:=cE _) (bz (af ⟨_,rfl,af q⟩) d))
end
end HT
namespace L2
open PySem PySem.Spec PyProof.Rows
section
variable{X:Cx}{K:Fg}
def rSlW(K:Fg):V->Option Int->Option Int->Hp->VK->Prop:=λx lo hi H Q=>∃a xs,x=.ref a/\SqT K H a xs/\HT.sIx xs.length 0 lo=0/\HT.sIx xs.length xs.length hi=xs.length/\Q (.ref a) H
theorem eZq(hK:X.K=K:=by rfl):SlR X (rSlW K):=by
 subst hK;intro pins s σ H x v U O lo hi sl Q I rx D pl pu h;obtain⟨a,xs,rfl,G,h0,J,q⟩:=h;cases rx;obtain⟨d,r,B,Y⟩:=I.tuple G;have hlen:d.toArray.size=xs.length:=by rw[aq];exact r.length.symm
 obtain⟨os,i,j,L⟩:=id D;refine⟨"tuple",_,cF.lookup,B.typeIs,HT.tup_slice B ⟨os,i,j⟩ λA=>HT.sliceApplied_gen D pl pu ⟨rfl,.inl ⟨?_,rfl,?_,.ref a,H,I,rfl,q⟩⟩⟩
 ·show((HT.sIx d.toArray.size 0 lo:Nat):Int)=0;rw[hlen,h0];rfl
 ·show HT.sIx d.toArray.size d.toArray.size hi-HT.sIx d.toArray.size 0 lo=d.toArray.size;rw[hlen,h0,J];rfl
end
end L2
set_option maxHeartbeats 1000000
namespace L2
open PySem PySem.Spec PyProof.Rows
section
variable{X:Cx}{K:Fg}{a b:Expr}{ta tb:ED}{pos:Pos}{k:Nat}
def ltD:R2D:=λd e S Q=>match d,e with
 |.int i,.int j=>Q (.bl (decide (i<j))) S
 |.str x,.str y=>Q (.bl (HT.ltS x y)) S
 |.tup xs,.tup ys=>∃as bs,xs=as.map D.str/\ys=bs.map D.str/\Q (.bl (HT.lexS as bs)) S
 |_,_=>False
def rLtA(K:Fg):R2:=λx y H Q=>rI0 (λi j=>.bl (decide (i<j))) x y H Q\/(∃i j,x=.str i/\y=.str j/\Q (.bl (decide (i.cps.toList<j.cps.toList))) H)\/rLtS K x y H Q
theorem fZo(hu:X.A.units<cQ)(hK:X.K=K:=by rfl):OpR X (cu .Lt) (rLtA K):=op_lt.or (op_lt_str.or (eZ4 hu hK))
theorem aJh{M:Am}{H:Hp}:∀{as:List Str}{xs:List V},RepL K M H (as.map D.str) xs->a9 (dS H) xs as
 |[],xs,h=>by rw[fv] at h;unfold RepL at h;subst h;exact .nil
 |a::as,xs,h=>by
  rw[bd] at h;unfold RepL at h;obtain⟨v,vs,rfl,r,l⟩:=h;unfold RepV at r;exact .cons r (aJh l)
theorem cJk{M:Am}{H:Hp}:∀{as:List Str}{xs:List V},a9 (dS H) xs as->RepL K M H (as.map D.str) xs
 |_,_,.nil=>RepL.nil
 |_,_,.cons r l=>RepL.cons (by unfold RepV;exact r) (cJk l)
theorem bJt{S:Sto}{F:Am}{H:Hp}{as:List Str}{v:V}(h:RepV K (mt S F) H (.tup (as.map D.str)) v):dT K dS H v as:=by
 obtain⟨a,xs,rfl,t,l⟩:=tup.st h;exact⟨a,xs,rfl,t,aJh l⟩
theorem gQ2:OpD K (rLtA K) ltD:=by
 intro F S H d e x y Q QD r hd he h c;cases d with
 |int i =>
  cases e with
  |int j=>rw[rint hd,rint he];exact .inl ⟨i,j,rfl,rfl,c.bl r h⟩
  |_=>exact h.elim
 |str i =>
  cases e with
  |str j=>rw[rstr hd,rstr he];exact .inr (.inl ⟨i,j,rfl,rfl,c.bl r h⟩)
  |_=>exact h.elim
 |tup xs =>
  cases e with
  |tup ys =>
   obtain⟨as,bs,rfl,rfl,q⟩:=h;exact .inr (.inr ⟨as,bs,bJt hd,bJt he,c.bl r q⟩)
  |_=>exact h.elim
 |_=>exact h.elim
theorem fZp(hr:Room k X.A)(ha:PD K X a ta)(hb:PD K X b tb)(hK:X.K=K:=by rfl):PTD K X (.Compare a [.Lt] [b] pos) (aXy (dOp ltD ta tb)):=aXz (fZo hr.units0 hK) gQ2 ha hb (nomark _)
abbrev gtD:R2D:=iiD0 λi j=>.bl (decide (j<i))
abbrev geD:R2D:=iiD0 λi j=>.bl (decide (j<=i))
theorem fZq(hr:Room k X.A)(ha:PD K X a ta)(hb:PD K X b tb):PTD K X (.Compare a [.Gt] [b] pos) (aXy (dOp gtD ta tb)):=aXz fJm dZo ha hb (nomark _)
theorem gQ3(hr:Room k X.A)(ha:PD K X a ta)(hb:PD K X b tb):PTD K X (.Compare a [.GtE] [b] pos) (aXy (dOp geD ta tb)):=aXz fJn dZo ha hb (nomark _)
def cJl:D->Bool
 |.non=>true
 |_=>false
def isD(neg:Bool):R2D:=λd e S Q=>match d,e with
 |.bl x,.bl y=>Q (.bl (if neg then x !=y else x==y)) S
 |d,.non=>Q (.bl (if neg then !cJl d else cJl d)) S
 |_,_=>False
def rIsA(neg:Bool):R2:=λx y H Q=>(∃i j,x=.bl i/\y=.bl j/\Q (.bl (if neg then i !=j else i==j)) H)\/(y=.non/\Q (.bl (if neg then !decide (x=.non) else decide (x=.non))) H)
theorem dJd:OpR X (cu .Is) (rIsA false):=OpR.or (by
 intro pins s σ H x y v u Q I rx ry h;obtain⟨i,j,rfl,rfl,q⟩:=h;cases rx;cases ry;exact is_bool ⟨.bl _,H,I,rfl,q⟩) fQc
theorem dZq{M:Am}{H:Hp}{d:D}{x:V}(h:RepV K M H d x):decide (x=.non)=cJl d:=by
 cases d <;> unfold RepV at h <;> first|(rw[h];rfl)|(obtain⟨a,xs,rfl,_⟩:=h;rfl)|skip
theorem fZr{neg:Bool}:OpD K (rIsA neg) (isD neg):=by
 intro F S H d e x y Q QD r hd he h c;have non:e=.non->QD (.bl (if neg then !cJl d else cJl d)) S->rIsA neg x y H Q:=by
  rintro rfl q;rw[rnon he];refine .inr ⟨rfl,?_⟩;rw[dZq hd];exact c.bl r q
 cases e with
 |non=>exact non rfl (by cases d <;> exact h)
 |bl j =>
  cases d with
  |bl i=>rw[rbl hd,rbl he];exact .inl ⟨i,j,rfl,rfl,c.bl r h⟩
  |_=>exact h.elim
 |_=>cases d <;> exact h.elim
theorem e_is(hr:Room k X.A)(ha:PD K X a ta)(hb:PD K X b tb):PD K X (.Compare a [.Is] [b] pos) (dOp (isD false) ta tb):=eZd dJd fZr ha hb (nomark _)
theorem gQ4(hr:Room k X.A)(ha:PD K X a ta)(hb:PD K X b tb):PTD K X (.Compare a [.Is] [b] pos) (aXy (dOp (isD false) ta tb)):=aXz dJd fZr ha hb (nomark _)
def gQ5(ta tb:ED):ED:=fun Γ S Q=>ta Γ S λx S1=>∃c,x=.bl c/\if c=true then tb Γ S1 Q else Q (.bl false) S1
def gQ6(ta:ED):ED:=fun Γ S Q=>ta Γ S λx S1=>∃c,x=.bl c/\Q (.bl (!c)) S1
theorem eZr{op}(h:PD K X a ta):PD K X (.BoolOp op [a] pos) ta:=⟨eJz h.o⟩
theorem dZr{rest:List Expr}(ha:PD K X a ta)(hb:PD K X (.BoolOp .And (b::rest) pos) tb):PD K X (.BoolOp .And (a::b::rest) pos) (gQ5 ta tb):=.of (fQ0 ha.o hb.o) fun σ H Q G=>G.el λF S Γ QD r g q c =>
 ⟨F,S,Γ,_,r,g,q,λv d H1 O i j v1 D=>by
  obtain⟨z,e,B⟩:=D;subst e;refine⟨z,rbl v1,?_⟩;cases z with
  |true=>exact⟨F,O,Γ,QD,j,g.ext i,B,λv z U L J=>c v z U L (i.trans J)⟩
  |false=>exact(Cn.shift c i).bl j B⟩
theorem gQ7(ha:PD K X a ta):PD K X (.UnaryOp .Not a pos) (gQ6 ta):=.of (fQ1 ha.o) fun σ H Q j=>j.el λF S Γ QD r g q c =>
 ⟨F,S,Γ,_,r,g,q,λv d H1 J B D v1 i=>by
  obtain⟨z,e,G⟩:=i;subst e;exact⟨z,rbl v1,(Cn.shift c B).bl D G⟩⟩
structure PWD(K:Fg)(X:Cx)(e:Expr)(t:TD):Prop where
 o:PW X e (upT K t)
def dAnd(t u:TD):TD:=fun Γ S Q=>t Γ S λc S1=>if c=true then u Γ S1 Q else Q false S1
def dOr(t u:TD):TD:=fun Γ S Q=>t Γ S λc S1=>if c=true then Q true S1 else u Γ S1 Q
def dNot(t:TD):TD:=fun Γ S Q=>t Γ S λc S1=>Q (!c) S1
section
variable{tA tB':TD}{rest:List Expr}
theorem PWD.pt{e:Expr}{t:TD}(h:PWD K X e t):PTD K X e t:=⟨PW.pt h.o⟩
theorem PWD.of{e:Expr}{te:TT}{t:TD}(h:PW X e te)(i:∀σ H Q,upT K t σ H Q->te σ H Q):PWD K X e t:=⟨λd pins s σ H Q I q=>h d pins s σ H Q I (i σ H Q q)⟩
theorem cJm(ha:PTD K X a tA):PWD K X (.BoolOp .And [a] pos) tA:=⟨eQ5 ha.o⟩
theorem cJn(ha:PTD K X a tA):PWD K X (.BoolOp .Or [a] pos) tA:=⟨eJw ha.o⟩
theorem dJe(ha:PTD K X a tA)(hb:PWD K X (.BoolOp .And (b::rest) pos) tB'):PWD K X (.BoolOp .And (a::b::rest) pos) (dAnd tA tB'):=.of (eJx ha.o hb.o) fun σ H Q B=>B.el λF S Γ QD r g q c =>
 ⟨F,S,Γ,_,r,g,q,λz H1 J d i j=>by
  cases z with
  |true=>exact⟨F,J,Γ,QD,i,g.ext d,j,λz L G D=>c z L G (d.trans D)⟩
  |false=>exact c _ _ _ d i j⟩
theorem eZs(ha:PTD K X a tA)(hb:PWD K X (.BoolOp .Or (b::rest) pos) tB'):PWD K X (.BoolOp .Or (a::b::rest) pos) (dOr tA tB'):=.of (fJb ha.o hb.o) fun σ H Q B=>B.el λF S Γ QD r g q c =>
 ⟨F,S,Γ,_,r,g,q,λz H1 J d i j=>by
  cases z with
  |false=>exact⟨F,J,Γ,QD,i,g.ext d,j,λz L G D=>c z L G (d.trans D)⟩
  |true=>exact c _ _ _ d i j⟩
theorem bQi(ha:PTD K X a tA):PTD K X (.UnaryOp .Not a pos) (dNot tA):=.of (eJy ha.o) fun σ H Q d=>d.el λF S Γ QD r g q c=>⟨F,S,Γ,_,r,g,q,λz H1 D i j B=>c _ _ _ i j B⟩
end
def truD(S:Sto)(d:D)(k:Bool->Prop):Prop:=match d with
 |.non=>k false
 |.bl b=>k b
 |.int i=>k (i !=0)
 |.str x=>x.length<=sizeLine/\k ((x.length:Int) !=0)
 |.tup xs=>k (!xs.isEmpty)
 |.lst xs=>k (!xs.isEmpty)
 |.ref a=>∃xs,S a=some (.lst xs)/\k (!xs.isEmpty)
 |.ty _=>False
def dTru(ta:ED):TD:=fun Γ S Q=>ta Γ S λd S1=>truD S1 d λb=>Q b S1
theorem cJo{M:Am}{H:Hp}{ds:List D}{xs:List V}(l:RepL K M H ds xs):(!xs.isEmpty)=!ds.isEmpty:=by
 have:=l.length
 cases ds <;> cases xs <;> first|rfl|simp at this
theorem aZl(ha:PD K X a ta)(he:∀whole,isTrue a X.env whole=(do let v <- whole;fR a.pos;fQ [v] (truthy v)):=by intro _;rfl)(hK:X.K=K:=by rfl):PTD K X a (dTru ta):=.of (cJ9 (K:=K) ha.o he hK) fun σ H Q G=>G.el λF S Γ QD r g q c =>
 ⟨F,S,Γ,_,r,g,q,λv d H1 D B j v1 i=>by
  cases d with
  |non=>rw[rnon v1];exact⟨false,rfl,c _ _ _ B j i⟩
  |bl b=>rw[rbl v1];exact⟨b,rfl,c _ _ _ B j i⟩
  |int b=>rw[rint v1];exact⟨_,rfl,c _ _ _ B j i⟩
  |str b=>rw[rstr v1];exact⟨_,⟨i.1,rfl⟩,c _ _ _ B j i.2⟩
  |ty b=>exact i.elim
  |tup xs =>
   obtain⟨p,us,rfl,t,l⟩:=tup.st v1;exact⟨_,.inr (.inl ⟨us,t,rfl⟩),c _ _ _ B j (by rw[cJo l];exact i)⟩
  |lst xs =>
   obtain⟨p,us,rfl,t,l⟩:=lsIs.sl j v1 (show lsIs D (.lst xs) xs from rfl)
   exact⟨_,.inl ⟨us,t,rfl⟩,c _ _ _ B j (by rw[cJo l];exact i)⟩
  |ref p =>
   obtain⟨xs,e,i⟩:=i;obtain⟨p,us,rfl,t,l⟩:=lsIs.sl j v1 (show lsIs D (.ref p) xs from e)
   exact⟨_,.inl ⟨us,t,rfl⟩,c _ _ _ B j (by rw[cJo l];exact i)⟩⟩
section
variable{e:Expr}{t:AD}{p:Pos}
def lenD:RCD:=λds S Q=>match ds with
 |[.str x]=>x.length<=sizeLine/\Q (.int x.length) S
 |[d]=>∃xs,sqIs S d xs/\Q (.int xs.length) S
 |_=>False
theorem cJp(hK:X.K=K:=by rfl):CallR X (.builtin "len") (λxs H Q=>∃x n,xs=[x]/\LenV K x H n/\Q (.int n) H):=hK▸dQy
theorem fZs:bXs K (λxs H Q=>∃x n,xs=[x]/\LenV K x H n/\Q (.int n) H) lenD:=by
 intro F S H ds vs Q QD r l h c
 match ds,h with
 |[d],h =>
  obtain⟨v,rfl,i⟩:=l.one;have seq:(∃xs,sqIs S d xs/\QD (.int xs.length) S)->∃x n,[v]=[x]/\LenV K x H n/\Q (.int n) H:=by
   rintro⟨xs,h1,q⟩;obtain⟨a,us,rfl,sq,l⟩:=h1.sq r i;refine⟨_,xs.length,rfl,?_,c.int r q⟩;rcases sq with sq|sq
   ·exact .inl ⟨us,sq,l.length.symm⟩
   ·exact .inr ⟨us,sq,l.length.symm⟩
  cases d with
  |str x=>rw[rstr i];exact⟨_,x.length,rfl,⟨h.1,rfl⟩,c.int r h.2⟩
  |_=>exact seq h
 |[],h=>exact h.elim
 |d::_::_,h=>cases d <;> exact h.elim
theorem aXn(hg:Gl X "len")(hm:X.mg "len"=none)(ha:PAD K X [e] t)(hK:X.K=K:=by rfl)(he:au [e] X.env=(false,eval e X.env)::au [] X.env:=by rfl)(hpl:(cD pos (au [] X.env)).any (·.1)=false:=by rfl):PD K X (.Call (.Name "len" p) [e] [] pos) (dCB lenD t):=aXt (cJp hK) fZs hg hm fQm ha (by decide) (by decide) he hpl
def tupD:RCD:=λds S Q=>match ds with
 |[d]=>∃xs,sqIs S d xs/\Q (.tup xs) S
 |_=>False
theorem fZt:bXs K (λxs H Q=>∃p ys,xs=[.ref p]/\((SqL K H p ys/\∀l,H l=none->Q (.ref l) (upd H l (.tup ys)))\/(SqT K H p ys/\Q (.ref p) H))) tupD:=by
 intro F S H ds vs Q QD r l h c
 match ds,h with
 |[d],⟨xs,h1,q⟩ =>
  obtain⟨v,rfl,i⟩:=l.one;cases d with
  |tup ys =>
   cases h1;obtain⟨a,us,rfl,sq,l⟩:=tup.st i;exact⟨a,us,rfl,.inr ⟨sq,c.here r i q⟩⟩
  |lst ys =>
   obtain⟨a,us,rfl,sq,l⟩:=lsIs.sl r i (show lsIs S (.lst ys) xs from h1)
   exact⟨a,us,rfl,.inl ⟨sq,λp j=>c.tup r j l q⟩⟩
  |ref y =>
   obtain⟨a,us,rfl,sq,l⟩:=lsIs.sl r i (show lsIs S (.ref y) xs from h1)
   exact⟨a,us,rfl,.inl ⟨sq,λp j=>c.tup r j l q⟩⟩
  |_=>exact h1.elim
theorem aZs(hg:Gl X "tuple")(hm:X.mg "tuple"=none)(ha:PAD K X [e] t)(hK:X.K=K:=by rfl)(he:au [e] X.env=(false,eval e X.env)::au [] X.env:=by rfl)(hpl:(cD pos (au [] X.env)).any (·.1)=false:=by rfl):PD K X (.Call (.Name "tuple" p) [e] [] pos) (dCB tupD t):=cQu (bJm hK) fZt hg hm bZh ha (by decide) (by decide) he hpl
def intD:RCD:=λds S Q=>match ds with
 |[.int i]=>Q (.int i) S
 |[.bl k]=>Q (.int (if k then 1 else 0)) S
 |_=>False
theorem dJf(hg:Gl X "int")(hm:X.mg "int"=none)(ha:PAD K X [e] t)(he:au [e] X.env=(false,eval e X.env)::au [] X.env:=by rfl)(hpl:(cD pos (au [] X.env)).any (·.1)=false:=by rfl):PD K X (.Call (.Name "int" p) [e] [] pos) (dCB intD t):=cQu cXe (by
 intro F S H ds vs Q QD r l h c
 match ds,h with
 |[.int i],h=>obtain⟨v,rfl,d⟩:=l.one;rw[rint d];exact .inl ⟨i,rfl,c.int r h⟩
 |[.bl i],h=>obtain⟨v,rfl,d⟩:=l.one;rw[rbl d];exact .inr ⟨i,rfl,c.int r h⟩) hg hm dXx ha (by decide) (by decide) he hpl
theorem cQw{M:Am}{H:Hp}:∀{bs:List Bool}{xs:List V},RepL K M H (bs.map D.bl) xs->a9 (dB H) xs bs
 |[],xs,h=>by rw[fv] at h;unfold RepL at h;subst h;exact .nil
 |a::as,xs,h=>by
  rw[bd] at h;unfold RepL at h;obtain⟨v,vs,rfl,r,l⟩:=h;unfold RepV at r;exact .cons r (cQw l)
def quD(g:List Bool->Bool):RCD:=λds S Q=>match ds with
 |[d]=>∃bs,lsIs S d (bs.map D.bl)/\Q (.bl (g bs)) S
 |_=>False
theorem fZu{g:List Bool->Bool}:bXs K (λxs H Q=>∃x bs,xs=[x]/\dL K dB H x bs/\Q (.bl (g bs)) H) (quD g):=by
 intro F S H ds vs Q QD r l h c
 match ds,h with
 |[d],⟨bs,h1,q⟩ =>
  obtain⟨v,rfl,i⟩:=l.one;obtain⟨a,us,rfl,sq,l⟩:=lsIs.sl r i h1;exact⟨_,bs,rfl,⟨a,us,rfl,sq,cQw l⟩,c.bl r q⟩
theorem gQ8(hg:Gl X "all")(hm:X.mg "all"=none)(ha:PAD K X [e] t)(hK:X.K=K:=by rfl)(hc:X.calm=true:=by rfl)(he:au [e] X.env=(false,eval e X.env)::au [] X.env:=by rfl)(hpl:(cD pos (au [] X.env)).any (·.1)=false:=by rfl):PD K X (.Call (.Name "all" p) [e] [] pos) (dCB (quD λbs=>bs.all id) t):=aXt (cJ7 hK hc) fZu hg hm fQo ha (by decide) (by decide) he hpl
theorem gQ9(hg:Gl X "any")(hm:X.mg "any"=none)(ha:PAD K X [e] t)(hK:X.K=K:=by rfl)(hc:X.calm=true:=by rfl)(he:au [e] X.env=(false,eval e X.env)::au [] X.env:=by rfl)(hpl:(cD pos (au [] X.env)).any (·.1)=false:=by rfl):PD K X (.Call (.Name "any" p) [e] [] pos) (dCB (quD λbs=>bs.any id) t):=aXt (cJ8 hK hc) fZu hg hm fQp ha (by decide) (by decide) he hpl
def tyD:D->Option String
 |.non=>some "NoneType"
 |.bl _=>some "bool"
 |.int _=>some "int"
 |.str _=>some "str"
 |.tup _=>some "tuple"
 |.lst _=>some "list"
 |_=>none
def isiD:RCD:=λds S Q=>match ds with
 |[d,.ty T]=>∃t b,tyD d=some t/\subT t T=some b/\Q (.bl b) S
 |_=>False
def fZv(K:Fg):List V->Hp->VK->Prop:=λxs H Q=>(∃x T t b,xs=[x,.ty T]/\TyOf K H x (.type t)/\subT t T=some b/\Q (.bl b) H)\/(∃a T b ys,xs=[.ref a,.ty T]/\SqT K H a ys/\subT "tuple" T=some b/\Q (.bl b) H)\/∃a T b ys,xs=[.ref a,.ty T]/\SqL K H a ys/\subT "list" T=some b/\Q (.bl b) H
theorem cJq(hK:X.K=K:=by rfl):CallR X (.builtin "isinstance") (fZv K):=by
 subst hK;refine call_isi.or (CallR.or ?_ ?_)
 ·intro pins s σ H xs us Q I i h;obtain⟨a,T,b,ys,rfl,sq,e,q⟩:=h;obtain⟨u,c,rfl,ru,rc⟩:=i.two;cases rc;cases ru;obtain⟨j,r,p,_⟩:=I.tuple sq;obtain⟨o,h1,h2,_⟩:=p;exact cJ PySem.W.kitx_tuple I.kIn ⟨o,h1,h2⟩ (cXq e) (λz=>nomatch z) λd=>⟨.bl b,H,I.tok d,rfl,q⟩
 ·intro pins s σ H xs us Q I i h;obtain⟨a,T,b,ys,rfl,sq,e,q⟩:=h;obtain⟨u,c,rfl,ru,rc⟩:=i.two;cases rc;cases ru;obtain⟨j,r,p,_⟩:=I.list sq;obtain⟨o,n,h1,h2,_⟩:=p;exact cJ jg I.kIn ⟨o,h1,h2⟩ (cXq e) (λz=>nomatch z) λd=>⟨.bl b,H,I.tok d,rfl,q⟩
theorem fZw:bXs K (fZv K) isiD:=by
 intro F S H ds vs Q QD r l h c
 match ds,h with
 |[d,.ty T],⟨t,b,h1,h2,q⟩ =>
  obtain⟨v,w,rfl,j,B⟩:=l.two;unfold RepV at B;subst B;cases d with
  |non=>cases h1;rw[rnon j];exact .inl ⟨_,T,_,b,rfl,.non,h2,c.bl r q⟩
  |bl i=>cases h1;rw[rbl j];exact .inl ⟨_,T,_,b,rfl,.bl _,h2,c.bl r q⟩
  |int i=>cases h1;rw[rint j];exact .inl ⟨_,T,_,b,rfl,.int _,h2,c.bl r q⟩
  |str i=>cases h1;rw[rstr j];exact .inl ⟨_,T,_,b,rfl,.str _,h2,c.bl r q⟩
  |tup xs =>
   cases h1;obtain⟨a,us,rfl,sq,l⟩:=tup.st j;exact .inr (.inl ⟨a,T,b,us,rfl,sq,h2,c.bl r q⟩)
  |lst xs =>
   cases h1;obtain⟨a,us,rfl,sq,l⟩:=lsIs.sl r j (show lsIs S (.lst xs) xs from rfl)
   exact .inr (.inr ⟨a,T,b,us,rfl,sq,h2,c.bl r q⟩)
  |_=>cases h1
theorem cX0{e2:Expr}(hg:Gl X "isinstance")(hm:X.mg "isinstance"=none)(ha:PAD K X [e,e2] t)(hK:X.K=K:=by rfl)(he:au [e,e2] X.env=(false,eval e X.env)::au [e2] X.env:=by rfl)(hpl:(cD pos (au [e2] X.env)).any (·.1)=false:=by rfl):PD K X (.Call (.Name "isinstance" p) [e,e2] [] pos) (dCB isiD t):=aXt (cJq hK) fZw hg hm bZg ha (by decide) (by decide) he hpl
end
def ixD:R2D:=λd e S Q=>match d,e with
 |.str z,.int i=>z.length<=sizeLine/\∃c,atI z.cps.toList i=some c/\Q (.str ⟨#[c]⟩) S
 |d,.int i=>∃xs v,sqIs S d xs/\atI xs i=some v/\Q v S
 |_,_=>False
theorem gQa{M:Am}{H:Hp}{ds:List D}{xs:List V}(l:RepL K M H ds xs){i:Int}{d:D}(h:atI ds i=some d):∃v,atI xs i=some v/\RepV K M H d v:=by
 unfold atI at h ⊢;rw[l.length];cases hi:ixN ds.length i with
 |none=>rw[hi] at h;cases h
 |some j=>rw[hi] at h;exact l.get h
theorem gQb:OpD K (rIx K) ixD:=by
 intro F S H d e x y Q QD r hd he h c;have seq:∀i,e=.int i->(∃xs v,sqIs S d xs/\atI xs i=some v/\QD v S)->rIx K x y H Q:=by
  rintro i rfl ⟨xs,v,h1,h2,q⟩;obtain⟨a,us,rfl,sq,l⟩:=h1.sq r hd;obtain⟨u,B,j⟩:=gQa l h2;rw[rint he];rcases sq with sq|sq
  ·exact .inl ⟨a,us,i,u,rfl,rfl,sq,B,c.here r j q⟩
  ·exact .inr (.inl ⟨a,us,i,u,rfl,rfl,sq,B,c.here r j q⟩)
 cases e with
 |int i =>
  cases d with
  |str z =>
   obtain⟨h1,w,h2,q⟩:=h;rw[rstr hd,rint he];exact .inr (.inr ⟨z,i,w,rfl,rfl,h1,h2,c.str r q⟩)
  |_=>exact seq i rfl h
 |_=>cases d <;> exact h.elim
theorem eZt(hK:X.K=K:=by rfl):IxR X (rIx K):=hK▸fQk
theorem e_ix(ha:PD K X a ta)(hb:PD K X b tb)(hs:PlainIx b:=by exact λ_ _=>rfl)(hK:X.K=K:=by rfl):PD K X (.Subscript a b pos) (dOp ixD ta tb):=.of (pe_ix (eZt hK) ha.o hb.o hs) (dZn gQb)
abbrev OD:=Gm->Sto->(Option Int->Sto->Prop)->Prop
def upO(K:Fg)(t:OD):TO:=fun σ H Q=>∃F S Γ QD,Rp K F S H/\RepG K (mt S F) H Γ σ/\t Γ S QD/\∀o H' S',Ext S H S' H'->Rp K F S' H'->QD o S'->Q o H'
theorem upO.el{K:Fg}{t:OD}{σ:St}{H:Hp}{Q:Option Int->Hp->Prop}{p:Prop}(h:upO K t σ H Q)(k:∀F S Γ QD,Rp K F S H->RepG K (mt S F) H Γ σ->t Γ S QD->(∀o H' S',Ext S H S' H'->Rp K F S' H'->QD o S'->Q o H')->p):p:=by
 obtain⟨F,S,Γ,QD,h0,h1,h2,d⟩:=h;exact k F S Γ QD h0 h1 h2 d
structure POD(K:Fg)(X:Cx)(e:Option Expr)(t:OD):Prop where
 o:PO X e (upO K t)
def eZu:OD:=λ_ S Q=>Q none S
def gQc(t:ED):OD:=fun Γ S Q=>t Γ S λd S1=>∃i,d=.int i/\Q (some i) S1
theorem aXe:POD K X none eZu:=⟨λpins s σ H Q I d=>d.el λF S Γ QD r g q c=>eQi pins s σ H Q I (c none H S (Ext.refl _ _) r q)⟩
theorem aZt(h:PD K X a ta):POD K X (some a) (gQc ta):=⟨λpins s σ H Q I B=>B.el λF S Γ QD r g q c=>eQj h.o pins s σ H Q I ⟨F,S,Γ,_,r,g,q,λv d H1 L D G v1 j=>by
 obtain⟨i,e,J⟩:=j;subst e;exact⟨i,rint v1,c _ _ _ D G J⟩⟩⟩
def cutD(xs:List D)(lo hi:Option Int):List D:=(xs.drop (HT.sIx xs.length 0 lo)).take (HT.sIx xs.length xs.length hi-HT.sIx xs.length 0 lo)
def slD(b:Bool)(d:D)(lo hi:Option Int)(S:Sto)(Q:DK):Prop:=match d with
 |.str z=>z.length<=1000000/\Q (.str (cutS z lo hi)) S
 |.tup xs=>Q (.tup (cutD xs lo hi)) S
 |d=>∃xs,lsIs S d xs/\newL b (cutD xs lo hi) S Q
def rSlA(K:Fg):V->Option Int->Option Int->Hp->VK->Prop:=λx lo hi H Q=>rSlS x lo hi H Q\/rSlT K x lo hi H Q\/rSlW K x lo hi H Q\/rSlL K x lo hi H Q
theorem sl_A(hK:X.K=K:=by rfl):SlR X (rSlA K):=sl_str.or ((eZ3 hK).or ((eZq hK).or (dZf hK)))
theorem cQx(xs:List D){lo hi:Option Int}(h0:HT.sIx xs.length 0 lo=0)(h1:HT.sIx xs.length xs.length hi=xs.length):cutD xs lo hi=xs:=by unfold cutD;rw[h0,h1];simp
theorem dJg{M:Am}{H:Hp}{ds:List D}{xs:List V}(l:RepL K M H ds xs)(lo hi:Option Int):RepL K M H (cutD ds lo hi) (cutV xs lo hi):=by
 unfold cutD cutV;rw[l.length];exact(l.drop _).take _
theorem sd_A{b:Bool}:∀F S H d x lo hi Q QD,Rp K F S H->RepV K (mt S F) H d x->slD b d lo hi S QD->Cn K F S H QD Q->rSlA K x lo hi H Q:=by
 intro F S H d x lo hi Q QD r hd h c;have lists:(∃xs,lsIs S d xs/\newL b (cutD xs lo hi) S QD)->rSlA K x lo hi H Q:=by
  rintro⟨xs,B,q⟩;obtain⟨a,us,rfl,s1,i⟩:=lsIs.sl r hd B;exact .inr (.inr (.inr ⟨a,us,rfl,s1,λp j=>c.new r j (dJg i lo hi) q⟩))
 cases d with
 |str z=>rw[rstr hd];exact .inl ⟨z,rfl,h.1,c.str r h.2⟩
 |tup xs =>
  obtain⟨a,us,rfl,s1,i⟩:=tup.st hd
  by_cases hw:HT.sIx us.length 0 lo=0/\HT.sIx us.length us.length hi=us.length
  ·refine .inr (.inr (.inl ⟨a,us,rfl,s1,hw.1,hw.2,c.here r hd ?_⟩));rw[i.length] at hw;have h':QD (.tup (cutD xs lo hi)) S:=h;rwa [cQx xs hw.1 hw.2] at h'
  ·exact .inr (.inl ⟨a,us,rfl,s1,hw,λp j=>c.tup r j (dJg i lo hi) h⟩)
 |_=>exact lists h
def dSl(b:Bool)(te:ED)(tl th:OD):ED:=fun Γ S Q=>te Γ S λd S1=>tl Γ S1 λlo S2=>th Γ S2 λhi S3=>slD b d lo hi S3 Q
theorem e_sl{b:Bool}{e:Expr}{te:ED}{lo hi:Option Expr}{tl th:OD}{p2 pos:Pos}(he:PD K X e te)(hl:POD K X lo tl)(hu:POD K X hi th)(hK:X.K=K:=by rfl):PD K X (.Subscript e (.Slice lo hi none p2) pos) (dSl b te tl th):=.of (dZ0 (sl_A hK) he.o hl.o hu.o) fun σ H Q D=>D.el λF S Γ QD r g q c =>
 ⟨F,S,Γ,_,r,g,q,λv d H1 S1 j L v1 Y=>⟨F,S1,Γ,_,L,g.ext j,Y,λl H2 S2 i J U=>⟨F,S2,Γ,_,J,g.ext (j.trans i),U,λu H3 Z B G O=>sd_A F Z H3 d v l u Q QD G (v1.ext (i.trans B)) O (Cn.shift c (j.trans (i.trans B)))⟩⟩⟩
end
end L2
set_option maxHeartbeats 4000000
namespace L2
open PySem PySem.Spec PyProof.Rows
section
variable{X:Cx}{K:Fg}{a b:Expr}{ta tb:ED}{pos:Pos}{k:Nat}
abbrev GD:=D->Gm->Sto->(Gm->Sto->Prop)->Prop
abbrev GsD:=List D->Gm->Sto->(Gm->Sto->Prop)->Prop
def upG(K:Fg)(t:GD):TG:=λv σ H Q=>∃F S Γ d QD,Rp K F S H/\RepG K (mt S F) H Γ σ/\RepV K (mt S F) H d v/\t d Γ S QD/\∀Γ' S' σ' H',Ext S H S' H'->Rp K F S' H'->RepG K (mt S' F) H' Γ' σ'->QD Γ' S'->Q σ' H'
theorem upG.el{K:Fg}{t:GD}{v:V}{σ:St}{H:Hp}{Q:St->Hp->Prop}{p:Prop}(h:upG K t v σ H Q)(k:∀F S Γ d QD,Rp K F S H->RepG K (mt S F) H Γ σ->RepV K (mt S F) H d v->t d Γ S QD->(∀Γ' S' σ' H',Ext S H S' H'->Rp K F S' H'->RepG K (mt S' F) H' Γ' σ'->QD Γ' S'->Q σ' H')->p):p:=by
 obtain⟨F,S,Γ,d,QD,h0,h1,h2,j,i⟩:=h;exact k F S Γ d QD h0 h1 h2 j i
def upGs(K:Fg)(t:GsD):TGs:=λvs σ H Q=>∃F S Γ ds QD,Rp K F S H/\RepG K (mt S F) H Γ σ/\RepL K (mt S F) H ds vs/\t ds Γ S QD/\∀Γ' S' σ' H',Ext S H S' H'->Rp K F S' H'->RepG K (mt S' F) H' Γ' σ'->QD Γ' S'->Q σ' H'
theorem upGs.el{K:Fg}{t:GsD}{vs:List V}{σ:St}{H:Hp}{Q:St->Hp->Prop}{p:Prop}(h:upGs K t vs σ H Q)(k:∀F S Γ ds QD,Rp K F S H->RepG K (mt S F) H Γ σ->RepL K (mt S F) H ds vs->t ds Γ S QD->(∀Γ' S' σ' H',Ext S H S' H'->Rp K F S' H'->RepG K (mt S' F) H' Γ' σ'->QD Γ' S'->Q σ' H')->p):p:=by
 obtain⟨F,S,Γ,ds,QD,h0,h1,h2,i,d⟩:=h;exact k F S Γ ds QD h0 h1 h2 i d
structure PGD(K:Fg)(X:Cx)(e:Expr)(t:GD):Prop where
 o:PG X e (upG K t)
structure PGsD(K:Fg)(X:Cx)(es:List Expr)(t:GsD):Prop where
 o:PGs X es (upGs K t)
theorem PGD.of{e:Expr}{te:TG}{t:GD}(h:PG X e te)(i:∀v σ H Q,upG K t v σ H Q->te v σ H Q):PGD K X e t:=⟨λpins s σ H v u Q I r q=>h pins s σ H v u Q I r (i v σ H Q q)⟩
theorem PGsD.of{e:List Expr}{te:TGs}{t:GsD}(h:PGs X e te)(i:∀v σ H Q,upGs K t v σ H Q->te v σ H Q):PGsD K X e t:=⟨λpins s σ H v u Q I r q=>h pins s σ H v u Q I r (i v σ H Q q)⟩
def aZe(i:Nat):GD:=λd Γ S Q=>Q (Γ.set i (some d)) S
theorem aQq{i:Nat}{x:Str}(hN:X.N.Nodup)(hi:X.N[i]?=some x)(hx:Loc X.env.scope x)(hf:X.fn x=true\/X.env.scope.names.lookup x=some .local:=by first|exact .inl rfl|exact .inr rfl|assumption):PGD K X (.Name x pos) (aZe i) :=
 .of (aQb hN hi hx hf) λv σ H Q j=>j.el λF S Γ d QD r g B q c=>c _ S _ H (Ext.refl _ _) r (g.set B i) q
def fZx:GsD:=λds Γ S Q=>ds=[]/\Q Γ S
def cJr(t:GD)(u:GsD):GsD:=λds Γ S Q=>match ds with
 |[]=>False
 |d::r=>t d Γ S fun Γ' S'=>u r Γ' S' Q
def fZy(n:Nat)(t:GsD):GD:=λd Γ S Q=>match d with
 |.tup ds=>ds.length=n/\t ds Γ S Q
 |_=>False
theorem bZv:PGsD K X [] fZx:=.of aJb λv σ H Q d=>by
 obtain⟨F,S,Γ,ds,QD,r,g,l,⟨e,q⟩,c⟩:=d;subst e;unfold RepL at l;exact⟨l,c _ S _ H (Ext.refl _ _) r g q⟩
theorem aZm{e:Expr}{es:List Expr}{t:GD}{u:GsD}(h1:PGD K X e t)(h2:PGsD K X es u)(ha:(eV (e::es) X.env).map (·.2)=jq e X.env::(eV es X.env).map (·.2):=by rfl):PGsD K X (e::es) (cJr t u) :=
 .of (aZ5 h1.o h2.o ha) λvs σ H Q j=>j.el λF S Γ ds QD r g l q c=>by
  cases ds with
  |nil=>exact q.elim
  |cons d ds =>
   unfold RepL at l;obtain⟨v,vs,rfl,D,l⟩:=l;exact⟨v,vs,rfl,F,S,Γ,d,_,r,g,D,q,fun Γ1 O σ1 H1 i G g1 J=>⟨F,O,Γ1,ds,_,G,g1,l.ext i,J,fun Γ2 L σ2 H2 B=>c Γ2 L σ2 H2 (i.trans B)⟩⟩
theorem cQy{es:List Expr}{kk:Nat}{t:GsD}{n:Nat}(hc:X.calm=true)(h:PGsD K X es t)(hK:X.K=K:=by rfl)
  (hn:(eV es X.env).length=n:=by rfl) (hst:(eV es X.env).findIdx? (·.1)=none:=by rfl):PGD K X (.Tuple es kk pos) (fZy n t) :=
 .of (bZ0 hc h.o hn hst) λv σ H Q i=>i.el λF S Γ d QD r g j q c=>by
  cases d with
  |tup ds =>
   obtain⟨p,us,rfl,sq,l⟩:=tup.st j;exact⟨p,us,rfl,by rw[hK];exact sq,by rw[l.length];exact q.1,F,S,Γ,ds,_,r,g,l,q.2,c⟩
  |_=>exact q.elim
def setD(o i v:D)(S:Sto)(Q:Sto->Prop):Prop:=match o,i with
 |.ref p,.int k=>∃xs j,S p=some (.lst xs)/\ixN xs.length k=some j/\Q (supd S p (.lst (xs.set j v)))
 |_,_=>False
def gdSub(to ti:ED):GD:=λv Γ S Q=>to Γ S λo S1=>ti Γ S1 λi S2=>setD o i v S2 λS3=>Q Γ S3
theorem dJh{o i:Expr}{to ti:ED}(ho:PD K X o to)(hi:PD K X i ti)
  (ha:∀ v,jq (.Subscript o i pos) X.env v=(do
   let ov <- fQ [v] (eval o X.env)
   let iv <- fQ [v,ov] (eval i X.env)
   fR pos
   fQ [v,ov,iv] (setItem ov iv v)
   release [v,ov,iv] []):=by intro _;rfl):PGD K X (.Subscript o i pos) (gdSub to ti) :=
 .of (fQ3 ho.o hi.o dZ1 ha) λv σ H Q z0=>z0.el λF S Γ d QD r g rv q c =>
  ⟨F,S,Γ,_,r,g,q,λov od H1 S1 J r1 v1 q1=>⟨F,S1,Γ,_,r1,g.ext J,q1,λiv id H2 U G Y v2 O=>by
   have L:=v1.ext G;cases od with
   |ref p =>
    cases id with
    |int kk =>
     obtain⟨xs,j,Z,hj,q3⟩:=O;obtain⟨us,hH,l⟩:=Y.obj p _ Z;rw[rref L,rint v2];have B:U p≠none:=by rw[Z];exact λz=>by cases z
     have D:Ext U H2 (supd U p (.lst (xs.set j d))) (upd H2 p (.lst (us.set j v))):=Ext.write B;refine⟨p,us,kk,j,rfl,rfl,hH,by rw[l.length];exact hj,?_⟩
     refine c Γ _ σ _ (J.trans (G.trans D)) (Y.write B ⟨_,aQ9,?_⟩) (g.ext (J.trans (G.trans D))) q3;exact RepL.set (rv.ext (J.trans (G.trans D))) j (l.ext D)
    |_=>exact O.elim
   |_=>exact O.elim⟩⟩
def gQd:SD:=λE Γ S=>E.nx Γ S
def dSeq(t u:SD):SD:=λE Γ S=>t {E with nx:=u E} Γ S
def dAsg(te:ED)(g:GD):SD:=λE Γ S=>te Γ S λd S1=>g d Γ S1 E.nx
def gQe(te:ED):SD:=λE Γ S=>te Γ S λ_ S1=>E.nx Γ S1
def dRet(te:ED):SD:=λE Γ S=>te Γ S E.rt
def dIfS(c:TD)(t u:SD):SD:=λE Γ S=>c Γ S λb S1=>if b=true then t E Γ S1 else u E Γ S1
section
variable{st:Stmt}{rest:List Stmt}{t u:SD}
theorem aQu:PSsD K X [] gQd:=.of eQ6 λi σ H d=>d.el λF S Γ E r g q c=>c.nx Γ S σ H (Ext.refl _ _) r g q
theorem aQ2(h1:PSD K X st t)(h2:PSsD K X rest u):PSsD K X (st::rest) (dSeq t u):=.of (cQc h1.o h2.o) λG σ H d=>d.el λF S Γ E r g q c =>
 ⟨F,S,Γ,{E with nx:=u E},r,g,q,fun Γ1 D σ1 H1 i j g1 B=>⟨F,D,Γ1,E,j,g1,B,c.ext i⟩,c.rt,c.bk,c.ct⟩
theorem aQ3(h1:PSD K X st t):PSsD K X [st] t:=⟨eQ7 h1.o⟩
theorem dJi{tg e:Expr}{te:ED}{g:GD}(he:PD K X e te)(hg:PGD K X tg g)(hs:swapsWithSole [tg] e pos.line X.env=pure false:=by rfl)(hw:swappedStores [tg] e X.env=pure none:=by rfl)
  (h1:(eV [tg] X.env).map (·.2)=[jq tg X.env]:=by rfl):PSD K X (.Assign [tg] e pos) (dAsg te g):=.of (fQ4 he.o hg.o hs hw h1) λO σ H j=>j.el λF S Γ E r g q c =>
 ⟨F,S,Γ,_,r,g,q,λv d H1 L i D v1 G=>⟨F,L,Γ,d,_,D,g.ext i,v1,G,fun Γ2 J σ2 H2 B=>c.nx Γ2 J σ2 H2 (i.trans B)⟩⟩
theorem fZz{te:ED}{i:Nat}:∀D' σ H,upS K (dAsg te (aZe i)) D' σ H->tAsg (upE K te) (bJc i) D' σ H:=λD' σ H B=>B.el λF S Γ E r g q c =>
 ⟨F,S,Γ,_,r,g,q,λv d H1 J j D v1 G=>c.nx _ J _ H1 j D ((g.ext j).set v1 i) G⟩
theorem aQf{i:Nat}{x:Str}{e:Expr}{te:ED}{pos':Pos}(hN:X.N.Nodup)(hi:X.N[i]?=some x)(hx:Loc X.env.scope x)(he:PD K X e te)(hs:g7 e (some (.Name x pos')) pos.line X.env=pure false:=by rfl)(hf:X.fn x=true\/X.env.scope.names.lookup x=some .local:=by first|exact .inl rfl|exact .inr rfl|assumption) :
  PSD K X (.Assign [.Name x pos'] e pos) (dAsg te (aZe i)):=.of (fQ5 hN hi hx he.o hs hf) fZz
theorem bQj{e:Expr}{te:ED}(he:PD K X e te)(hs:g7 e none pos.line X.env=pure false:=by rfl):PSD K X (.Expr e pos) (gQe te):=.of (eQ8 he.o hs) λJ σ H j=>j.el λF S Γ E r g q c =>
 ⟨F,S,Γ,_,r,g,q,λv d H1 G i B v1 D=>c.nx Γ G σ H1 i B (g.ext i) D⟩
theorem aQi{e:Expr}{te:ED}(he:PD K X e te):PSD K X (.Return (some e) pos) (dRet te):=.of (fQ2 he.o) λJ σ H i=>i.el λF S Γ E r g q c =>
 ⟨F,S,Γ,_,r,g,q,λv d H1 G j B v1 D=>c.rt v d H1 G j B v1 D⟩
theorem aXa{c:Expr}{sa sb:List Stmt}{tc:TD}(hc:PTD K X c tc)(ha:PSsD K X sa t)(hb:PSsD K X sb u):PSD K X (.If c sa sb pos) (dIfS tc t u):=.of (fJg hc.o ha.o hb.o) λG σ H D=>D.el λF S Γ E r g q c =>
 ⟨F,S,Γ,_,r,g,q,λz H1 B d i j=>by
  cases z with
  |true=>exact⟨F,B,Γ,E,i,g.ext d,j,c.ext d⟩
  |false=>exact⟨F,B,Γ,E,i,g.ext d,j,c.ext d⟩⟩
end
def FE(F:Am)(H:Hp)(F2:Am):Prop:=∀a,F2 a->F a\/H a=none
theorem FE.refl(F:Am)(H:Hp):FE F H F:=λ_ h=>.inl h
structure ExtW(F:Am)(S:Sto)(H:Hp)(S':Sto)(H':Hp):Prop where
 keep:∀a o,¬ mt S F a->H a=some o->H' a=some o
 new:∀a,S' a≠none->S a≠none\/H a=none
theorem Ext.w{F:Am}{S S':Sto}{H H':Hp}(x:Ext S H S' H'):ExtW F S H S' H':=⟨λa o h e=>x.keep a o (aX λn=>h (.inl n)) e,x.new⟩
theorem ExtW.kpF{F F2:Am}{S S':Sto}{H H':Hp}(x:ExtW F S H S' H')(f:FE F H F2):Keep (mt S F) H (mt S' F2) H':=⟨x.keep,λa h e=>λz=>by
 rcases z with z|z
 ·rcases x.new a z with y|y
  ·exact h (.inl y)
  ·exact e y
 ·rcases f a z with y|y
  ·exact h (.inr y)
  ·exact e y⟩
structure ItOk(K:Fg)(F:Am)(S:Sto)(H:Hp)(J:It)(xs:List D)(G:Sto->Prop):Prop where
 go:∀F2,FE F H F2->∀S2 H2,ExtW F S H S2 H2->Rp K F2 S2 H2->G S2->∀i d,xs[i]?=some d->J.go i H2/\∀x H3,J.yld i H2 x H3->Ext S2 H2 S2 H3/\Rp K F2 S2 H3/\RepV K (mt S2 F2) H3 d x
 stop:∀F2,FE F H F2->∀S2 H2,ExtW F S H S2 H2->Rp K F2 S2 H2->G S2->J.stop xs.length H2
abbrev IDk:=List D->(Sto->Prop)->Sto->Prop
abbrev ID:=Gm->Sto->IDk->Prop
def upI(K:Fg)(t:ID):TI:=fun σ H R=>∃F S Γ QD,Rp K F S H/\RepG K (mt S F) H Γ σ/\t Γ S QD/\∀J xs G H' S',Ext S H S' H'->Rp K F S' H'->ItOk K F S' H' J xs G->QD xs G S'->R J H'
theorem upI.el{K:Fg}{t:ID}{σ:St}{H:Hp}{R:It->Hp->Prop}{p:Prop}(h:upI K t σ H R)(k:∀F S Γ QD,Rp K F S H->RepG K (mt S F) H Γ σ->t Γ S QD->(∀J xs G H' S',Ext S H S' H'->Rp K F S' H'->ItOk K F S' H' J xs G->QD xs G S'->R J H')->p):p:=by
 obtain⟨F,S,Γ,QD,h0,h1,h2,d⟩:=h;exact k F S Γ QD h0 h1 h2 d
structure PID(K:Fg)(X:Cx)(tg e:Expr)(t:ID):Prop where
 o:PI X tg e (upI K t)
theorem PID.of{tg e:Expr}{te:TI}{t:ID}(h:PI X tg e te)(i:∀σ H Q,upI K t σ H Q->te σ H Q):PID K X tg e t:=⟨λpins s σ H Q I q=>h pins s σ H Q I (i σ H Q q)⟩
def iSq(K:Fg)(tl:TE):TI:=fun σ H R=>tl σ H λx H1=>(∃a,x=.ref a/\(∃xs,SqL K H1 a xs)/\R (Itl K a) H1)\/∃a,x=.ref a/\(∃xs,SqT K H1 a xs)/\R (Itt K a) H1
theorem gQf{tg l:Expr}{tl:TE}(hl:PE X l tl)(hK:X.K=K:=by rfl):PI X tg l (iSq K tl):=by
 subst hK;intro pins s σ H R I h;refine thn (hl pins s σ H _ I h) λv s1 ⟨x,H1,d,r1,D⟩=>?_;have fp:∀b∈[s1.heap.objs.size],FpOk X pins H1 b:=λb J=>by
  have e:b=s1.heap.objs.size:=by simpa using J
  subst e;exact d.fpOk (Nat.le_refl _) (d.hok.fresh (Nat.le_refl _))
 rcases D with⟨a,e,⟨xs,j⟩,q⟩|⟨a,e,⟨xs,j⟩,q⟩
 ·subst e;cases r1;obtain⟨i,B,p,G⟩:=d.list j;exact gQ p.isList ⟨s1.heap.objs.size,[s1.heap.objs.size],_,_,H1,rfl,d.kept (t':=s1.toks) λb o e=>ah _ e,cXa a _,⟨_,av _ rfl,rfl,rfl⟩,fp,q⟩
 ·subst e;cases r1;obtain⟨i,B,p,G⟩:=d.tuple j;exact eJ (show s1.heap.IsTuple a i.toArray from p) ⟨s1.heap.objs.size,[s1.heap.objs.size],_,_,H1,rfl,d.kept (t':=s1.toks) λb o e=>ah _ e,cZo a _,⟨_,av _ rfl,rfl,rfl⟩,fp,q⟩
def fX0(d:D)(xs:List D):Sto->Prop:=match d with
 |.ref a=>λS=>S a=some (.lst xs)
 |_=>λ_=>True
def dSq(te:ED):ID:=fun Γ S Q=>te Γ S λd S1=>∃xs,sqIs S1 d xs/\Q xs (fX0 d xs) S1
theorem eZv{F:Am}{S:Sto}{H:Hp}{p:Addr}{xs:List D}{us:List V}{G:Sto->Prop}(t:TupAt K (mt S F) H p us)(l:RepL K (mt S F) H xs us):ItOk K F S H (Itt K p) xs G where
 go:=λY f U H2 x j _ i d hd=>by
  have t2:=(t.keep (x.kpF f)).sq;obtain⟨v,B,L⟩:=l.get hd;refine⟨⟨us,v,t2,B⟩,λy Z ⟨O,J⟩=>?_⟩;subst O
  have:=J us t2
  rw[B] at this;cases this;exact⟨Ext.refl _ _,j,L.keep (x.kpF f)⟩
 stop:=λY f U H2 x j _=>⟨us,(t.keep (x.kpF f)).sq,by rw[l.length];exact Nat.le_refl _⟩
theorem eZw{F:Am}{S:Sto}{H:Hp}{p:Addr}{xs:List D}{us:List V}{G:Sto->Prop}(t:LstAt K (mt S F) H p us)(l:RepL K (mt S F) H xs us):ItOk K F S H (Itl K p) xs G where
 go:=λY f U H2 x j _ i d hd=>by
  obtain⟨v,B,L⟩:=l.get hd;have t2:SqL K H2 p us:=(t.keep (x.kpF f)).sq;refine⟨⟨us,v,t2,B⟩,λy Z ⟨O,J⟩=>?_⟩;subst O
  have:=J us t2
  rw[B] at this;cases this;exact⟨Ext.refl _ _,j,L.keep (x.kpF f)⟩
 stop:=λY f U H2 x j _=>⟨us,(t.keep (x.kpF f)).sq,by rw[l.length];exact Nat.le_refl _⟩
theorem eZx{F:Am}{S:Sto}{H:Hp}{p:Addr}{xs:List D}:ItOk K F S H (Itl K p) xs (fX0 (.ref p) xs) where
 go:=λZ f Y H2 x j G i d hd=>by
  obtain⟨us,B,l⟩:=j.obj p _ G;obtain⟨v,J,O⟩:=l.get hd;refine⟨⟨us,v,SqL.of B,J⟩,λy H3 ⟨U,L⟩=>?_⟩;subst U
  have:=L us (SqL.of B)
  rw[J] at this;cases this;exact⟨Ext.refl _ _,j,O⟩
 stop:=λZ f Y H2 x j G=>by
  obtain⟨us,B,l⟩:=j.obj p _ G;exact⟨us,SqL.of B,by rw[l.length];exact Nat.le_refl _⟩
theorem aQz{tg l:Expr}{tl:ED}(hl:PD K X l tl)(hK:X.K=K:=by rfl):PID K X tg l (dSq tl):=.of (gQf hl.o hK) fun σ H Q G=>G.el λF S Γ QD r g q c =>
 ⟨F,S,Γ,_,r,g,q,λv d H1 L j i v1 D=>by
  obtain⟨xs,hs,B⟩:=D;cases d with
  |tup ys =>
   cases hs;unfold RepV at v1;obtain⟨p,us,rfl,t,l⟩:=v1;exact .inr ⟨p,rfl,⟨us,t.sq⟩,c _ _ _ _ _ j i (eZv t l) B⟩
  |lst ys =>
   cases hs;unfold RepV at v1;obtain⟨p,us,rfl,t,l⟩:=v1;exact .inl ⟨p,rfl,⟨us,t.sq⟩,c _ _ _ _ _ j i (eZw t l) B⟩
  |ref p =>
   rw[rref v1];obtain⟨us,J,l⟩:=i.obj p _ hs;exact .inl ⟨p,rfl,⟨us,SqL.of J⟩,c _ _ _ _ _ j i eZx B⟩
  |_=>exact hs.elim⟩
def rngD(lo:Int):Nat->List D
 |0=>[]
 |n+1=>.int lo::rngD (lo+1) n
theorem aZ6:∀(n:Nat) (lo:Int),(rngD lo n).length=n
 |0,_=>rfl
 |n+1,lo=>by simp[rngD,aZ6 n]
theorem aJ1:∀(n:Nat) (lo:Int) (i:Nat) (d:D),(rngD lo n)[i]?=some d->i<n/\d=.int (lo+i)
 |0,lo,i,d,h=>by simp[rngD] at h
 |n+1,lo,0,d,h=>by simp[rngD] at h;exact⟨by lia,by rw[<- h];simp⟩
 |n+1,lo,i+1,d,h=>by
  have h':(rngD (lo+1) n)[i]?=some d:=by simpa [rngD] using h
  obtain⟨h1,h2⟩:=aJ1 n (lo+1) i d h';refine⟨by lia,?_⟩
  rw[h2]
  congr 1
  rw[iy];lia
theorem cJs{F:Am}{S:Sto}{H:Hp}{lo:Int}{n:Nat}{G:Sto->Prop}:ItOk K F S H (Itr lo n) (rngD lo n) G where
 go:=λL f J H2 x j _ i d hd=>by
  obtain⟨h1,rfl⟩:=aJ1 n lo i d hd;exact⟨h1,λy O ⟨D,B⟩=>by subst D;subst B;exact⟨Ext.refl _ _,j,by unfold RepV;rfl⟩⟩
 stop:=λL f J H2 x j _=>by rw[aZ6];exact Nat.le_refl n
def gQg(ta:AD):ID:=fun Γ S Q=>ta Γ S λds S1=>match ds with
 |[.int j]=>(-(2^62)<=j/\j<2^62)/\Q (rngD 0 j.toNat) (λ_=>True) S1
 |_=>False
def gQh(ta:AD):ID:=fun Γ S Q=>ta Γ S λds S1=>match ds with
 |[.int i,.int j]=>(-(2^62)<=i/\i<2^62/\-(2^62)<=j/\j<2^62)/\Q (rngD i (j-i).toNat) (λ_=>True) S1
 |_=>False
theorem aZy{tg:Expr}{p:Pos}{ta:AD}(hg:Gl X "range")(hm:X.mg "range"=none)(ha:PAD K X [a] ta)(hs:au [a] X.env=[(false,eval a X.env)]:=by rfl):PID K X tg (.Call (.Name "range" p) [a] [] pos) (gQg ta):=.of (cXb hg hm ha.o hs) fun σ H Q i=>i.el λF S Γ QD r g q c =>
 ⟨F,S,Γ,_,r,g,q,λvs ds H1 J B G v1 d=>by
  match ds,d with
  |[.int j],d =>
   obtain⟨v,rfl,D⟩:=v1.one;rw[rint D];exact⟨j,rfl,d.1.1,d.1.2,c _ _ _ _ _ B G cJs d.2⟩⟩
theorem bXu{tg:Expr}{p:Pos}{ta:AD}(hg:Gl X "range")(hm:X.mg "range"=none)(ha:PAD K X [a,b] ta)(hs:au [a,b] X.env=[(false,eval a X.env),(false,eval b X.env)]:=by rfl)(hs2:au [b] X.env=[(false,eval b X.env)]:=by rfl):PID K X tg (.Call (.Name "range" p) [a,b] [] pos) (gQh ta):=.of (cXc hg hm ha.o hs hs2) fun σ H Q D=>D.el λF S Γ QD r g q c =>
 ⟨F,S,Γ,_,r,g,q,λvs ds H1 O G L v1 d=>by
  match ds,d with
  |[.int i,.int j],d =>
   obtain⟨v,w,rfl,J,B⟩:=v1.two;rw[rint J,rint B];exact⟨i,j,rfl,d.1,c _ _ _ _ _ G L cJs d.2⟩⟩
def aJt(lo:Int):List D->List D
 |[]=>[]
 |d::ds=>.tup [.int lo,d]::aJt (lo+1) ds
theorem aZz:∀(ds:List D) (lo:Int),(aJt lo ds).length=ds.length
 |[],_=>rfl
 |d::ds,lo=>by simp[aJt,aZz ds]
theorem aX0:∀(ds:List D) (lo:Int) (i:Nat) (d:D),(aJt lo ds)[i]?=some d->∃e,ds[i]?=some e/\d=.tup [.int (lo+i),e]
 |[],lo,i,d,h=>by simp[aJt] at h
 |e::ds,lo,0,d,h=>by simp[aJt] at h;exact⟨e,rfl,by rw[<- h];simp⟩
 |e::ds,lo,i+1,d,h=>by
  have h':(aJt (lo+1) ds)[i]?=some d:=by simpa [aJt] using h
  obtain⟨f,h1,h2⟩:=aX0 ds (lo+1) i d h';refine⟨f,by simpa using h1,?_⟩
  rw[h2]
  have:lo+1+(i:Int)=lo+((i+1:Nat):Int):=by rw[iy];lia
  rw[this]
theorem cJt{F:Am}{S:Sto}{H:Hp}{p:Addr}{i:Nat}{y:V}{d:D}(r:Rp K F S H)(hp:H p=none)(rv:RepV K (mt S F) H d y):Ext S H S (upd H p (.tup [.int i,y]))/\Rp K F S (upd H p (.tup [.int i,y]))/\RepV K (mt S F) (upd H p (.tup [.int i,y])) (.tup [.int (0+i),d]) (.ref p):=by
 have x:Ext S H S (upd H p (.tup [.int i,y])):=Ext.same (aQs hp);refine⟨x,r.same (aQs hp),?_⟩;unfold RepV;exact⟨p,_,rfl,.inl ⟨r.nmt hp,.inl aQ9⟩,RepL.cons (by unfold RepV;rw[j0]) (RepL.cons (rv.ext x) RepL.nil)⟩
theorem eZy{F:Am}{S:Sto}{H:Hp}{p:Addr}{xs:List D}{us:List V}{G:Sto->Prop}(t:TupAt K (mt S F) H p us)(l:RepL K (mt S F) H xs us):ItOk K F S H (Ite K p) (aJt 0 xs) G where
 go:=λF2 f Z H2 x j _ i d hd=>by
  obtain⟨e,he,rfl⟩:=aX0 xs 0 i d hd;obtain⟨v,B,L⟩:=l.get he;have t2:=(t.keep (x.kpF f)).sq;refine⟨⟨us,v,t2,B⟩,λz H3 ⟨q,y,O,U,Y,J⟩=>?_⟩;subst U;subst Y
  have:=J us t2
  rw[B] at this;cases this;exact cJt j O (L.keep (x.kpF f))
 stop:=λF2 f Z H2 x j _=>⟨us,(t.keep (x.kpF f)).sq,by rw[aZz,l.length];exact Nat.le_refl _⟩
theorem eZz{F:Am}{S:Sto}{H:Hp}{p:Addr}{xs:List D}{us:List V}{G:Sto->Prop}(t:LstAt K (mt S F) H p us)(l:RepL K (mt S F) H xs us):ItOk K F S H (Itel K p) (aJt 0 xs) G where
 go:=λF2 f Z H2 x j _ i d hd=>by
  obtain⟨e,he,rfl⟩:=aX0 xs 0 i d hd;obtain⟨v,B,L⟩:=l.get he;have t2:SqL K H2 p us:=(t.keep (x.kpF f)).sq;refine⟨⟨us,v,t2,B⟩,λz H3 ⟨q,y,O,U,Y,J⟩=>?_⟩;subst U;subst Y
  have:=J us t2
  rw[B] at this;cases this;exact cJt j O (L.keep (x.kpF f))
 stop:=λF2 f Z H2 x j _=>⟨us,(t.keep (x.kpF f)).sq,by rw[aZz,l.length];exact Nat.le_refl _⟩
def dEnT(ta:AD):ID:=fun Γ S Q=>ta Γ S λds S1=>match ds with
 |[.tup xs]=>Q (aJt 0 xs) (λ_=>True) S1
 |_=>False
def dEnL(ta:AD):ID:=fun Γ S Q=>ta Γ S λds S1=>match ds with
 |[.lst xs]=>Q (aJt 0 xs) (λ_=>True) S1
 |_=>False
theorem dJj{e:Expr}{ta:AD}{p:Pos}{elts:List Expr}{x1:Nat}{tpos:Pos}(hg:Gl X "enumerate")(hm:X.mg "enumerate"=none)(ha:PAD K X [e] ta)(hs:au [e] X.env=[(false,eval e X.env)]:=by rfl)(hK:X.K=K:=by rfl) :
  PID K X (.Tuple elts x1 tpos) (.Call (.Name "enumerate" p) [e] [] pos) (dEnT ta):=.of (fQx hg hm ha.o hs hK) fun σ H Q j=>j.el λF S Γ QD r g q c =>
 ⟨F,S,Γ,_,r,g,q,λvs ds H1 D x1 B v1 d=>by
  match ds,d with
  |[.tup xs],d =>
   obtain⟨v,rfl,i⟩:=v1.one;unfold RepV at i;obtain⟨p,us,rfl,t,l⟩:=i;exact⟨p,rfl,⟨us,t.sq⟩,c _ _ _ _ _ x1 B (eZy t l) d⟩⟩
theorem fX1{e:Expr}{ta:AD}{p:Pos}{elts:List Expr}{x1:Nat}{tpos:Pos}(hg:Gl X "enumerate")(hm:X.mg "enumerate"=none)(ha:PAD K X [e] ta)(hs:au [e] X.env=[(false,eval e X.env)]:=by rfl)(hK:X.K=K:=by rfl) :
  PID K X (.Tuple elts x1 tpos) (.Call (.Name "enumerate" p) [e] [] pos) (dEnL ta):=.of (eZc hg hm ha.o hs hK) fun σ H Q j=>j.el λF S Γ QD r g q c =>
 ⟨F,S,Γ,_,r,g,q,λvs ds H1 D x1 B v1 d=>by
  match ds,d with
  |[.lst xs],d =>
   obtain⟨v,rfl,i⟩:=v1.one;unfold RepV at i;obtain⟨p,us,rfl,t,l⟩:=i;exact⟨p,rfl,⟨us,t.sq⟩,c _ _ _ _ _ x1 B (eZz t l) d⟩⟩
def forD(g:GD)(tb:SD)(G:Sto->Prop)(E:EndsD):List D->Gm->Sto->Prop
 |[],Γ,S=>G S/\E.nx Γ S
 |x::xs,Γ,S=>G S/\g x Γ S fun Γ2 S2=>tb {E with nx:=forD g tb G E xs,ct:=forD g tb G E xs,bk:=E.nx} Γ2 S2
def dFor(wi:ID)(g:GD)(tb:SD):SD:=λE Γ S=>wi Γ S λxs G S1=>forD g tb G E xs Γ S1
theorem aXf{α:Type}{xs:List α}{i:Nat}(h:i<xs.length):xs.drop i=xs[i]::xs.drop (i+1):=da h
theorem aZj{tg iter:Expr}{body:List Stmt}{wi:ID}{g:GD}{tb:SD}(hp:PassesOwn (aF X.prog X.w) X.A X.env X.xe)(hc:X.calm=true)(hi:PID K X tg iter wi)(hg:PGD K X tg g)(hb:PSsD K X body tb)(hs:∀x,ca iter X.env x=pure x:=by intro _;rfl):PSD K X (.For tg iter body [] pos) (dFor wi g tb):=.of (fQ6 hp hc hi.o hg.o hb.o hs) λD' σ H z0=>z0.el λF S Γ E r gm q c =>
 ⟨F,S,Γ,_,r,gm,q,λJ xs G H1 S1 x1 r1 it q1=>by
  refine⟨λi m σ' H'=>m=xs.length-i/\i<=xs.length/\∃S' Γ',Ext S1 H1 S' H'/\Rp K F S' H'/\RepG K (mt S' F) H' Γ' σ'/\forD g tb G E (xs.drop i) Γ' S',⟨xs.length,by simp,Nat.zero_le _,S1,Γ,Ext.refl _ _,r1,gm.ext x1,by simpa using q1⟩,?_⟩
  rintro i m σ' H' ⟨rfl,hi.o,S',Γ',Z,r2,g2,f2⟩
  by_cases O:i<xs.length
  ·rw[aXf O] at f2;obtain⟨hG,f2⟩:=f2;obtain⟨hgo,hy⟩:=it.go F (FE.refl F H1) S' H' Z.w r2 hG i xs[i] (ag O);refine .inr ⟨hgo,fun σ'' D=>∃B Γ'',Ext S1 H1 B D/\Rp K F B D/\RepG K (mt B F) D Γ'' σ''/\forD g tb G E (xs.drop (i+1)) Γ'' B,fun σ'' D z=>⟨xs.length-(i+1),by lia,rfl,O,z⟩,λx H3 y3=>?_⟩
   obtain⟨x3,r3,v3⟩:=hy x H3 y3;refine⟨F,S',Γ',xs[i],_,r3,g2.ext x3,v3,f2,fun Γ4 S4 σ4 H4 x4 r4 g4 q4=>⟨F,S4,Γ4,_,r4,g4,q4,?_⟩⟩;have j:=Z.trans (x3.trans x4);exact⟨fun Γ5 U σ5 Y L r5 g5 q5=>⟨U,Γ5,j.trans L,r5,g5,q5⟩,λv d Y U L=>c.rt v d Y U (x1.trans (j.trans L)),fun Γ5 U σ5 Y L=>c.nx Γ5 U σ5 Y (x1.trans (j.trans L)),fun Γ5 U σ5 Y L r5 g5 q5=>⟨U,Γ5,j.trans L,r5,g5,q5⟩⟩
  ·have e:i=xs.length:=by lia
   subst e;rw[fV] at f2;exact .inl ⟨it.stop F (FE.refl F H1) S' H' Z.w r2 f2.1,c.nx Γ' S' σ' H' (x1.trans Z) r2 g2 f2.2⟩⟩
end
end L2
set_option maxHeartbeats 1000000
namespace L2
open PySem PySem.Spec PyProof.Rows
section
variable{X:Cx}{K:Fg}{pos:Pos}{k:Nat}
structure ExtX(D':Addr)(S:Sto)(H:Hp)(S':Sto)(H':Hp):Prop where
 keep:∀a o,a≠D'->S a=none->H a=some o->H' a=some o
 live:∀a,H a≠none->H' a≠none
 new:∀a,S' a≠none->S a≠none\/H a=none
theorem Ext.x{D':Addr}{S S':Sto}{H H':Hp}(x:Ext S H S' H'):ExtX D' S H S' H':=⟨λa o _=>x.keep a o,x.live,x.new⟩
theorem ExtX.trans{D':Addr}{S S1 S2:Sto}{H H1 H2:Hp}(x:ExtX D' S H S1 H1)(y:ExtX D' S1 H1 S2 H2):ExtX D' S H S2 H2 :=
  ⟨λa o n h h' => y.keep a o n (by
      cases e:S1 a with
      |none =>rfl
      | some z => rcases x.new a (by rw [e]; exact λz => by cases z) with z | z
                  · exact absurd h z
                  · rw [h'] at z; cases z) (x.keep a o n h h'),λa h =>y.live a (x.live a h),λa h =>by
    rcases y.new a h with z|z
    · exact x.new a z
    · exact .inr (aX λn =>x.live a n z)⟩
theorem ExtX.kp{D':Addr}{F:Am}{S S':Sto}{H H':Hp}(x:ExtX D' S H S' H')(hF:F D'):Keep (mt S F) H (mt S' F) H':=⟨λa o h e=>x.keep a o (by rintro rfl;exact h (.inr hF)) (aX λn=>h (.inl n)) e,λa h e=>λz=>by
 rcases z with z|z
 ·rcases x.new a z with y|y
  ·exact h (.inl y)
  ·exact e y
 ·exact h (.inr z)⟩
theorem ExtX.w{D':Addr}{F:Am}{S S':Sto}{H H':Hp}(x:ExtX D' S H S' H')(hF:F D'):ExtW F S H S' H':=⟨λa o h e=>x.keep a o (by rintro rfl;exact h (.inr hF)) (aX λn=>h (.inl n)) e,x.new⟩
def Free(L:List Nat)(σ:St):Prop:=∀i∈L,σ[i]?=some none
abbrev BD:=Gm->Sto->List D->(List D->Sto->Prop)->Prop
def bXv(K:Fg)(L:List Nat)(tv:Addr->TB)(td:BD):Prop:=∀D' F S H Γ σ acc zs N QD,Free L σ->F D'->Rp K F S H->RepG K (mt S F) H Γ σ->H D'=some (.lst zs)->RepL K (mt S F) H acc zs->td Γ S acc QD ->
 (∀acc' S' H' zs',ExtX D' S H S' H'->Rp K F S' H'->H' D'=some (.lst zs')->RepL K (mt S' F) H' acc' zs'->QD acc' S'->N H')->tv D' σ H N
def bQk(te:ED):BD:=fun Γ S acc Q=>te Γ S λy S1=>acc.length<sizeLine/\Q (acc++[y]) S1
theorem aQl{L:List Nat}{te:ED}:bXv K L (λD'=>fQq D' (upE K te)) (bQk te):=by
 intro D' F S H Γ σ acc zs N QD _ i r g Y l q c;refine⟨F,S,Γ,_,r,g,q,λv d H1 j B D v1 ⟨O,J⟩=>?_⟩;have U:S D'=none:=(r.frm D' i).2;have G:j D'=none:=(D.frm D' i).2;have h1:H1 D'=some (.lst zs):=B.keep _ _ U Y;have y:ExtX D' j H1 j (upd H1 D' (.lst (zs++[v]))):=⟨λa o n _ e=>by rw[upd_ne n];exact e,λa h=>by
  by_cases e:a=D'
  ·subst e;rw[aQ9];exact λz=>by cases z
  ·rw[upd_ne e];exact h,λa h=>.inl h⟩
 refine⟨zs,h1,by rw[l.length];exact O,c _ j _ (zs++[v]) (B.x.trans y) ?_ aQ9 ?_ J⟩
 ·exact⟨λa o e=>(D.obj a o e).keep (y.kp i) (upd_ne (by rintro rfl;rw[G] at e;cases e)),λa h=>by
   obtain⟨⟨ys,e,ct⟩,h2⟩:=D.frm a h
   by_cases z:a=D'
   ·subst z;exact⟨⟨_,aQ9,trivial⟩,h2⟩
   ·exact⟨⟨ys,by rw[upd_ne z];exact e,ct⟩,h2⟩⟩
 ·exact RepL.app ((l.ext B).keep (y.kp i)) (RepL.cons (v1.keep (y.kp i)) RepL.nil)
def CG(K:Fg)(L L':List Nat)(g:TG)(gd:GD):Prop:=∀F S H Γ σ d v Q QD,Free L σ->Rp K F S H->RepG K (mt S F) H Γ σ->RepV K (mt S F) H d v->gd d Γ S QD->(∀Γ' S' σ' H',Ext S H S' H'->Rp K F S' H'->RepG K (mt S' F) H' Γ' σ'->Wk σ σ'->Free L' σ'->QD Γ' S'->Q σ' H')->g v σ H Q
theorem Free.set{L:List Nat}{σ:St}{i:Nat}{v:V}(h:Free (i::L) σ)(hi:i∉L):Free L (σ.set i (some v)):=λj d=>by
 rw[fG (by rintro rfl;exact hi d)]
 exact h j (am _ d)
theorem cg_name{L:List Nat}{i:Nat}(hi:i∉L:=by decide):CG K (i::L) L (bJc i) (aZe i):=λF S H Γ σ d v Q QD f r g j q c=>c _ S _ H (Ext.refl _ _) r (g.set j i) (eQq (f i ao)) (f.set hi) q
theorem bQl{L:List Nat}{i j:Nat}(hi:i∉j::L:=by decide)(hj:j∉L:=by decide):CG K (i::j::L) L (gTup K 2 (eQ9 (bJc i) (eQ9 (bJc j) gNil))) (fZy 2 (cJr (aZe i) (cJr (aZe j) fZx))):=λF S H Γ σ d v Q QD f r g B q c=>by
 cases d with
 |tup ds =>
  obtain⟨p,us,rfl,sq,l⟩:=tup.st B;obtain⟨hl,q⟩:=q
  match ds,hl,q with
  |[O,J],_,q =>
   obtain⟨v1,v2,rfl,G,D⟩:=l.two;have f1:Free (j::L) (σ.set i (some v1)):=f.set hi;exact⟨p,_,rfl,sq,rfl,v1,_,rfl,v2,_,rfl,rfl,c _ S _ H (Ext.refl _ _) r ((g.set G i).set D j) ((eQq (f i ao)).trans (eQq (f1 j ao))) (f1.set hj) q.2⟩
 |_=>exact q.elim
def aZf(g:GD)(tt:TD)(tb:BD)(G:Sto->Prop)(Γ0:Gm):List D->List D->Sto->(List D->Sto->Prop)->Prop
 |[],acc,S,Q=>G S/\Q acc S
 |x::xs,acc,S,Q=>G S/\g x Γ0 S fun Γ2 S2=>tt Γ2 S2 λb S3=>if b=true then tb Γ2 S3 acc λacc' S4=>aZf g tt tb G Γ0 xs acc' S4 Q else aZf g tt tb G Γ0 xs acc S3 Q
theorem eX0{L L':List Nat}{g:TG}{gd:GD}{tt:TD}{tv:Addr->TB}{tb:BD}(hg:CG K L L' g gd)(hb:bXv K L' tv tb){D':Addr}{F:Am}{S:Sto}{H:Hp}{Γ:Gm}{σ:St}{acc:List D}{zs:List V}{N:Hp->Prop}{QD:List D->Sto->Prop}{J:It}{xs:List D}{G:Sto->Prop}
  (f:Free L σ) (hF:F D') (r:Rp K F S H) (gm:RepG K (mt S F) H Γ σ) (hH:H D'=some (.lst zs)) (l:RepL K (mt S F) H acc zs) (it:∀S2 H2,ExtX D' S H S2 H2->Rp K F S2 H2->G S2->(∀i d,xs[i]?=some d->J.go i H2/\∀x H3,J.yld i H2 x H3->Ext S2 H2 S2 H3/\Rp K F S2 H3/\RepV K (mt S2 F) H3 d x)/\J.stop xs.length H2)
  (q:aZf gd tt tb G Γ xs acc S QD) (c:∀acc' S' H' zs',ExtX D' S H S' H'->Rp K F S' H'->H' D'=some (.lst zs')->RepL K (mt S' F) H' acc' zs'->QD acc' S'->N H'):bJf J σ g (upT K tt) (tv D') N H:=by
 refine⟨λi m H'=>m=xs.length-i/\i<=xs.length/\∃S' acc' zs',ExtX D' S H S' H'/\Rp K F S' H'/\H' D'=some (.lst zs')/\RepL K (mt S' F) H' acc' zs'/\aZf gd tt tb G Γ (xs.drop i) acc' S' QD,⟨xs.length,by simp,Nat.zero_le _,S,acc,zs,(Ext.refl _ _).x,r,hH,l,by simpa using q⟩,?_⟩
 rintro i m H' ⟨rfl,hi,S',acc',zs',x2,r2,h2,l2,f2⟩;have g2:=gm.keep (x2.kp hF)
 by_cases Z:i<xs.length
 ·rw[aXf Z] at f2;obtain⟨hG,f2⟩:=f2;obtain⟨hgo,hy⟩:=(it S' H' x2 r2 hG).1 i xs[i] (ag Z);refine .inr ⟨hgo,λB=>∃O j U,ExtX D' S H O B/\Rp K F O B/\B D'=some (.lst U)/\RepL K (mt O F) B j U/\aZf gd tt tb G Γ (xs.drop (i+1)) j O QD,λB z=>⟨xs.length-(i+1),by omega,rfl,Z,z⟩,λx H3 y3=>?_⟩
  obtain⟨x3,r3,v3⟩:=hy x H3 y3;refine hg F S' H3 Γ σ xs[i] x _ _ f r3 (g2.ext x3) v3 f2 fun Γ4 S4 σ4 H4 x4 r4 g4 wk fr4 q4=>⟨wk,F,S4,Γ4,_,r4,g4,q4,λz H5 S5 x5 r5 q5=>?_⟩;have Y:=x3.trans (x4.trans x5);have h5:H5 D'=some (.lst zs'):=Y.keep _ _ (r2.frm D' hF).2 h2;have l5:=l2.ext Y;have x05:ExtX D' S H S5 H5:=x2.trans Y.x;cases z with
  |false=>exact⟨S5,acc',zs',x05,r5,h5,l5,q5⟩
  |true=>exact hb D' F S5 H5 Γ4 σ4 acc' zs' _ _ fr4 hF r5 (g4.ext x5) h5 l5 q5 λacc6 S6 H6 zs6 x6 r6 h6 l6 q6=>⟨S6,acc6,zs6,x05.trans x6,r6,h6,l6,q6⟩
 ·have e:i=xs.length:=by omega
  subst e;rw[fV] at f2;exact .inl ⟨(it S' H' x2 r2 f2.1).2,c acc' S' H' zs' x2 r2 h2 l2 f2.2⟩
def fX2(wi:ID)(g:GD)(tt:TD)(tb:BD):BD:=fun Γ S acc Q=>wi Γ S λxs G S1=>aZf g tt tb G Γ xs acc S1 Q
def cJu(is:List (Option Nat))(Γ:Gm):Gm:=is.map λo=>o.bind λi=>(Γ[i]?).join
theorem RepG.at{M:Am}{H:Hp}:∀{g:Gm}{σ:St}{i:Nat}{d:D},RepG K M H g σ->g[i]?=some (some d)->∃v,σ[i]?=some (some v)/\RepV K M H d v
 |[],_,_,_,_,e=>by simp at e
 |none::g,_,0,_,_,e=>by simp at e
 |some d::g,_,0,e,⟨v,τ,rfl,q,r⟩,h=>by simp at h;subst h;exact⟨v,rfl,q⟩
 |none::g,_,i+1,d,⟨v,τ,rfl,r⟩,h=>by
  obtain⟨u,j,h1⟩:=RepG.at (i:=i) r (by simpa using h)
  exact⟨u,by simpa using j,h1⟩
 |some _::g,_,i+1,d,⟨v,τ,rfl,q,r⟩,h=>by
  obtain⟨u,j,h1⟩:=RepG.at (i:=i) r (by simpa using h)
  exact⟨u,by simpa using j,h1⟩
theorem RepG.capt{M:Am}{H:Hp}{g:Gm}{σ:St}(h:RepG K M H g σ):∀is:List (Option Nat),RepG K M H (cJu is g) (capt is σ)
 |[]=>rfl
 |o::is=>by
  have j:=RepG.capt h is;cases o with
  |none=>exact⟨_,_,rfl,j⟩
  |some i =>
   show RepG K M H ((g[i]?).join::cJu is g) ((σ[i]?).join::L2.capt is σ);cases e:g[i]? with
   |none=>exact⟨_,_,rfl,j⟩
   |some z =>
    cases z with
    |none=>exact⟨_,_,rfl,j⟩
    |some d =>
     obtain⟨v,B,r⟩:=h.at e;rw[B];exact⟨v,_,rfl,r,j⟩
def eX1(b:Bool)(is:List (Option Nat))(wi:ID)(g:GD)(tt:TD)(tb:BD):ED:=fun Γ S Q=>wi Γ S λxs G S1=>aZf g tt tb G (cJu is Γ) xs [] S1 λacc S2=>newL b acc S2 Q
theorem cJv{b:Bool}{L L':List Nat}{is:List (Option Nat)}{wi:ID}{g:TG}{gd:GD}{tt:TD}{tv:Addr->TB}{tb:BD}(hL:∀σ,Free L (capt is σ))(hg:CG K L L' g gd)(hb:bXv K L' tv tb):∀σ H Q,upE K (eX1 b is wi gd tt tb) σ H Q->cQf is (upI K wi) g (upT K tt) tv σ H Q:=fun σ H Q z0=>z0.el λF S Γ QD r gm q c =>
 ⟨F,S,Γ,_,r,gm,q,λJ xs G H1 j x1 r1 it q1 D' i=>by
  have O:j D'=none:=r1.sn i;have fe:FE F H1 (λa=>F a\/a=D'):=λa h=>h.elim .inl λe=>.inr (by rw[e];exact i)
  have nF:¬ F D':=λh=>by
   obtain⟨⟨ys,e,_⟩,_⟩:=r1.frm D' h;rw[i] at e;cases e
  have xe:Ext j H1 j (upd H1 D' (.lst [])):=Ext.same (aQs i);have kp:Keep (mt j F) H1 (mt j λa=>F a\/a=D') (upd H1 D' (.lst [])):=xe.w.kpF fe;have r2:Rp K (λa=>F a\/a=D') j (upd H1 D' (.lst [])):=⟨λa o e=>(r1.obj a o e).keep kp (upd_ne (by rintro rfl;rw[O] at e;cases e)),λa h=>by
   rcases h with h|h
   ·obtain⟨⟨ys,e,ct⟩,h2⟩:=r1.frm a h;exact⟨⟨ys,by rw[upd_ne (by rintro rfl;rw[i] at e;cases e)];exact e,ct⟩,h2⟩
   ·subst h;exact⟨⟨_,aQ9,trivial⟩,O⟩⟩
  have old:∀ {B H2},ExtX D' j (upd H1 D' (.lst [])) B H2->Ext j H1 B H2:=λ{B H2} y=>⟨λa o h e=>y.keep a o (by rintro rfl;rw[i] at e;cases e) h (by rw[upd_ne (by rintro rfl;rw[i] at e;cases e)];exact e),λa h=>y.live a (xe.live a h),λa h=>by
   rcases y.new a h with z|z
   ·exact .inl z
   ·by_cases e:a=D'
    ·subst e;exact .inr i
    ·rw[upd_ne e] at z;exact .inr z⟩
  refine eX0 hg hb (hL σ) (F:=λa=>F a\/a=D') (.inr rfl) r2 ((gm.ext x1).keep kp |>.capt is) aQ9 RepL.nil (λB H2 y r2 hG=>⟨it.go _ fe B H2 (old y).w r2 hG,it.stop _ fe B H2 (old y).w r2 hG⟩) q1 λd S' H' D y Z h3 l3 q3=>?_
  have less:Keep (mt S' λa=>F a\/a=D') H' (mt S' F) H':=⟨λ_ _ _ e=>e,λa h _=>λz=>h (z.elim .inl λw=>.inr (.inl w))⟩;have Y:=old y;have U:S' D'=none:=(Z.frm D' (.inr rfl)).2;have r4:Rp K F S' H':=⟨λa o e=>(Z.obj a o e).keep less rfl,λa h=>Z.frm a (.inl h)⟩;have nm:¬ mt S' F D':=λz=>z.elim (λw=>w U) nF;cases b with
  |false =>
   refine c (.ref D') (.lst d) H' S' (x1.trans Y) r4 ?_ q3;unfold RepV;exact⟨D',D,rfl,.inl ⟨nm,.inl h3⟩,l3.keep less⟩
  |true =>
   have x5:Ext j H1 (supd S' D' (.lst d)) H':=⟨Y.keep,Y.live,λa h=>by
    by_cases e:a=D'
    ·subst e;exact .inr i
    ·rw[aQ7 e] at h;exact Y.new a h⟩
   have k6:Keep (mt S' λa=>F a\/a=D') H' (mt (supd S' D' (.lst d)) F) H':=⟨λ_ _ _ e=>e,λa h _=>λz=>by
    rcases z with z|z
    ·by_cases e:a=D'
     ·exact h (.inr (.inr e))
     ·rw[aQ7 e] at z;exact h (.inl z)
    ·exact h (.inr (.inl z))⟩
   refine c (.ref D') (.ref D') H' (supd S' D' (.lst d)) (x1.trans x5) ⟨λa o e=>?_,λa h=>⟨(r4.frm a h).1,?_⟩⟩ (by unfold RepV;rfl) (q3 D' U)
   ·by_cases e1:a=D'
    ·subst e1;rw[aQa] at e;cases e;exact⟨D,h3,l3.keep k6⟩
    ·rw[aQ7 e1] at e;exact(Z.obj a o e).keep k6 rfl
   ·rw[aQ7 (by rintro rfl;exact nF h)];exact(r4.frm a h).2⟩
def dYes:TD:=λ_ S Q=>Q true S
theorem aZb:PTs X [] (upT K dYes):=λpins s σ H Q I d=>d.el λF S Γ QD r g q c=>eQn pins s σ H Q I (c true H S (Ext.refl _ _) r q)
theorem aQh{L:List Nat}{is:List (Option Nat)}(h:(L.all λi=>decide (is[i]?=some none))=true):∀σ,Free L (capt is σ):=fun σ i hi=>by
 have:=of_decide_eq_true (bB.mp h i hi)
 unfold capt;rw[aQ,this]
 rfl
theorem aQv{c:Expr}{t:TD}(h:PTD K X c t):PTs X [c] (upT K t):=eQo h.o
end
end L2
set_option maxHeartbeats 4000000
namespace L2
open PySem PySem.Spec PyProof.Rows
section
variable{prog:aD}{w:aR}{s:aj}
def Col(prog:aD)(w:aR)(s:aj)(v:ad)(Pv:List ad->Prop):Prop:=∀(A:bi) (E:ad->aj->Prop) (R:List ad->aj->Prop),A.handled=none ->
 (∀vals h' d tk,Pv vals->(∀b o,s.heap.get? b=some o->h'.get? b=some o)->R vals {s with heap:=h',drawn:=d,toks:=tk})->aH (aF prog w) A (collect v) R E s
theorem cJw{a:Addr}{T:String}{o:Obj}{its:List ad}{n:Nat}(hT:T="list"\/T="tuple")(ho:s.heap.get? a=some o)(hc:o.cls=.type T)(hd:o.data=.seq its.toArray n)(hz:its.length<=sizeLine):Col prog w s (.ref a) (·=its):=λA E R _ h =>
 wpAny_collect_seq a hT ho hc hd (λh' k=>by
  have:=h its h' s.drawn s.toks rfl k
  simpa using this) (by simpa using hz)
theorem dZs{a:Addr}{vs:List (Key×ad)}(lo:(a==gv)=false)(hd:s.heap.DictOf (bQ2 prog w) a vs)(hz:vs.length<=sizeLine):Col prog w s (.ref a) (λvals=>vals.length=vs.length/\∀(j:Nat) (v:ad),vals[j]?=some v->∃(k:Key) (x:ad),vs[j]?=some (k,x)/\dQt k v=true):=λA E R G h=>by
 obtain⟨ep,i⟩:=hd.dictAt;refine PySem.W.kdu_collect (PySem.W.kdl_dict (knd:=bQ2 prog w) (kvs:=vs) (ep:=ep) lo) G i hz λh' B acc D d=>?_;exact h acc.toList h' s.drawn B ⟨by rw[be];exact d.1,λj v e=>d.2 j v (by rw[<- a7];exact e)⟩ D
theorem aJi{A:bi}{E:ad->aj->Prop}{v:ad}{Pv:List ad->Prop}{Q:ad->aj->Prop}(hh:A.handled=none)(col:Col prog w s v Pv)(hz:∀vals,Pv vals->vals.length<=sizeLine)
  (srt:∀(vals:List ad) (h1:bj) (d:Drawn) (tk:Nat),Pv vals->(∀b o,s.heap.get? b=some o->h1.get? b=some o)->aH (aF prog w) A.in1.in1 (cI.«list.sort» ⟨[.ref h1.objs.size],[]⟩) (λfin s'=>fin=.done (.ret .none)/\Q (.ref h1.objs.size) s') E {s with heap:=h1.push (bV "list" vals.toArray 0),drawn:=d,toks:=tk}) :
  aH (aF prog w) A (call (.builtin "sorted") [v]) Q E s:=by
 refine fY kind_sorted plain_sorted entry_sorted (args_sorted1 _) ?_;unfold cI.«sorted»;refine aa (m:=checkCount "sorted" 1 1 _) (af ?_);refine aa (col A.in1 _ _ (by simp[hh]) λvals h1 d tk pv kp=>?_)
 refine aa (jv ?_ (hz vals pv));have i:(h1.push (bV "list" vals.toArray 0)).get? h1.objs.size=some (bV "list" vals.toArray 0):=av _ rfl;refine aa (bG (b9 slot_list_sort ⟨_,i,rfl⟩ entry_list_sort ?body (args_list_sort _)))
 case body =>
  refine eA (srt vals h1 d tk pv kp) (λfin s' ⟨e,q⟩=>?_) λ_ _ e=>e;subst e;exact⟨_,rfl,af ⟨_,rfl,q⟩⟩
theorem bQm{h:bj}{a:Addr}{vs:List ad}{n:Nat}{out:Array ad}(ho:h.get? a=some (bV "list" vs.toArray n)):(∃c,(hW h a vs out).get? a=some (bV "list" out c))/\∀b o,b≠a->h.get? b=some o->(hW h a vs out).get? b=some o:=by
 unfold hW;obtain⟨B,d⟩:∃B,(h.update a (bO λ_=>(#[]:Array ad))).get? a=some (bV "list" #[] B):=⟨_,eS ho λ_=>#[]⟩;have D:=cr h a (bO λ_=>(#[]:Array ad));have i:∀b o,(h.update a (bO λ_=>(#[]:Array ad))).get? b=some o->(((h.update a (bO λ_=>(#[]:Array ad))).push (bV "tuple" vs.toArray 0)).push (bV "list" #[] 0)).get? b=some o:=λb o e=>ah _ (ah _ e);refine⟨⟨_,eS (i _ _ d) λ_=>out⟩,λb o j e=>?_⟩;have s2:=cr (((h.update a (bO λ_=>(#[]:Array ad))).push (bV "tuple" vs.toArray 0)).push (bV "list" #[] 0)) a (bO λ_=>out);exact(s2.2 b j).trans (i b o ((D.2 b j).trans e))
theorem cJx{A:bi}{E:ad->aj->Prop}{a:Addr}{vs:List ad}{ss:List Str}{n:Nat}{P:iN->aj->Prop}(ho:s.heap.get? a=some (bV "list" vs.toArray n))(hS:jo vs ss)(h64:vs.length<=sizeLine)
  (h:∀(out:List ad) (ss':List Str) (h':bj) (c:Nat),jo out ss'->ss'.Perm ss->sortedS ss'=true->h'.get? a=some (bV "list" out.toArray c)->(∀b o,b≠a->s.heap.get? b=some o->h'.get? b=some o)->P (.done (.ret .none)) {s with heap:=h'}) :
  aH (aF prog w) A (cI.«list.sort» ⟨[.ref a],[]⟩) P E s:=by
 refine SF.treeK strKind_oneLt ho hS.keysOf (λj i rest e=>keyKind_strs (by rw[<- e];exact hS)) h64 λd D B=>?_
 obtain⟨ss',h1,h2,L⟩:=sorted_out_str hS D B;obtain⟨⟨c,J⟩,G⟩:=bQm (out:=(aU d).map (·.2)) ho;exact h _ ss' _ c h1 h2 L (by rw[J]) G
theorem cJy{A:bi}{E:ad->aj->Prop}{a:Addr}{vs:List ad}{ns:List Int}{n:Nat}{P:iN->aj->Prop}(ho:s.heap.get? a=some (bV "list" vs.toArray n))(hI:iE vs ns)(h64:vs.length<=sizeLine)
  (h:∀(out:List ad) (ns':List Int) (h':bj) (c:Nat),iE out ns'->ns'.Perm ns->ns'.Pairwise (·<=·)->h'.get? a=some (bV "list" out.toArray c)->(∀b o,b≠a->s.heap.get? b=some o->h'.get? b=some o)->P (.done (.ret .none)) {s with heap:=h'}) :
  aH (aF prog w) A (cI.«list.sort» ⟨[.ref a],[]⟩) P E s:=by
 refine SF.treeI ho hI h64 λout ns' h1 h2 j=>?_;obtain⟨⟨c,i⟩,d⟩:=bQm (out:=out) ho;exact h _ ns' _ c h1 h2 j (by rw[i]) d
end
section
variable{X:Cx}{K:Fg}
def Src(K:Fg)(H:Hp)(x:V)(us:List V):Prop:=∃a,x=.ref a/\(SqL K H a us\/SqT K H a us\/∃kvs:List (Key×V),H a=some (.dK kvs)/\us=kvs.map λp=>kV p.1)
theorem bXw:∀{kvs:List (Key×V)}{vs:List (Key×ad)}{vals:List ad},KV kvs vs->vals.length=vs.length->(∀(j:Nat) (v:ad),vals[j]?=some v->∃(k:Key) (x:ad),vs[j]?=some (k,x)/\dQt k v=true)->Vals (kvs.map λp=>kV p.1) vals
 |[],_,vals,.nil,hl,_=>by cases vals with
  |nil=>exact .nil
  |cons _ _=>simp at hl
 |p::kvs,_,vals,.cons (b:=q) D B,hl,h=>by
  cases vals with
  |nil=>simp at hl
  |cons v vals =>
   refine .cons ?_ (bXw B (by simpa using hl) λj v e=>by simpa using h (j+1) v (by simpa using e))
   obtain⟨k,x,e,G⟩:=h 0 v rfl;have J:q=(k,x):=by simpa using e
   have d:p.1=k:=by rw[D.1,J]
   show RelV (kV p.1) v;rw[d];rcases aQn G with⟨i,t,rfl,rfl⟩|⟨y,t,rfl,rfl⟩
   ·exact⟨t,rfl⟩
   ·exact⟨t,rfl⟩
theorem Inv.toks{pins:List (Addr×Obj)}{σ:St}{H:Hp}{s:aj}(I:Inv X pins σ H s){h':bj}(k:∀b o,s.heap.get? b=some o->h'.get? b=some o)(d:Drawn)(tk:Nat):Inv X pins σ H {s with heap:=h',drawn:=d,toks:=tk}:=(I.kept (t':=tk) k).drawn d
theorem Inv.src{pins:List (Addr×Obj)}{σ:St}{H:Hp}{s:aj}(I:Inv X pins σ H s)(hK:X.K=K){x:V}{u:ad}{us:List V}(h:Src K H x us)(r:RelV x u):Col X.prog X.w s u (λvals=>Vals us vals)/\us.length<=sizeLine:=by
 subst hK;obtain⟨a,rfl,h⟩:=h;cases r;rcases h with h|h|⟨G,h,rfl⟩
 ·obtain⟨J,j,⟨o,n,L,O,_,hd⟩,B⟩:=I.list h;have hl:=j.length;exact⟨λA E R D q=>cJw (.inl rfl) L O hd (by lia) A E R D λvals h' d i e k=>q vals h' d i (by rw[e];exact j) k,B⟩
 ·obtain⟨J,j,⟨o,L,O,n,hd⟩,B⟩:=I.tuple h;have hl:=j.length;exact⟨λA E R D q=>cJw (.inr rfl) L O hd (by lia) A E R D λvals h' d i e k=>q vals h' d i (by rw[e];exact j) k,B⟩
 ·obtain⟨B,lo,vs,U,hd⟩:=I.hok a _ h;have hl:G.length=vs.length:=cq U;exact⟨λA E R D q=>dZs lo hd (by lia) A E R D λvals h' d i e k=>q vals h' d i (bXw U e.1 e.2) k,by rw[ae];exact B⟩
def fX3(K:Fg):List V->Hp->VK->Prop:=λxs H Q=>∃(x:V) (ss:List Str),xs=[x]/\Src K H x (ss.map V.str)/\∀(p:Addr) (out:List Str),H p=none->out.Perm ss->out.Pairwise (λa b=>HT.ltS b a=false)->Q (.ref p) (upd H p (.lst (out.map V.str)))
theorem bZc:∀{l:List Str},sortedS l=true->l.Pairwise λa b=>HT.ltS b a=false
 |[],_=>.nil
 |[x],_=>bP _ _
 |x::y::l,h=>by
  have h':(!ltCps y.cps.toList x.cps.toList&&risingS y l)=true:=h;rw[aL] at h';have D:=bZc (l:=y::l) h'.2;have j:HT.ltS y x=false:=by
   have:=h'.1
   rw[dr,ltCps_eq] at this;exact this
  refine bb.mpr ⟨λz B=>?_,D⟩;rcases aA.mp B with rfl|B
  ·exact j
  ·have d:=(bb.mp D).1 z B;cases e:HT.ltS z x with
   |false=>rfl
   |true =>
    by_cases i:y=x
    ·subst i;rw[d] at e;cases e
    ·have:=HT.ltS_tot j i
     have:=HT.ltS_tr e this
     rw[d] at this;cases this
theorem cJz(hK:X.K=K:=by rfl)(hc:X.calm=true:=by rfl):CallR X (.builtin "sorted") (fX3 K):=by
 intro pins s σ H xs us Q I r h;obtain⟨x,ss,rfl,J,q⟩:=h;obtain⟨u,rfl,G⟩:=aX9 r;obtain⟨col,j⟩:=I.src hK J G;have len:∀{vals:List ad},Vals (ss.map V.str) vals->vals.length=ss.length:=λv=>by have:=v.length;simpa using this.symm
 refine aJi (I.ok.hd hc) col (λvals v=>by rw[len v];simpa using j) λvals h1 d i pv kp=>?_
 have D:H h1.objs.size=none:=(I.toks kp d i).hok.fresh (Nat.le_refl _);refine cJx (s:={ s with heap:=h1.push (bV "list" vals.toArray 0),drawn:=d,toks:=i }) (av _ rfl) (bJq (H:=H) (ds:=ss) (xs:=ss.map V.str) (by
  clear j q J col G pv len
  induction ss with
  |nil=>exact .nil
  |cons a ss L=>exact .cons rfl L) pv) (by rw[len pv];simpa using j) λout B h' c a1 a2 Y U O=>⟨rfl,?_⟩
 have Z:=I.toks kp d i;obtain⟨v1,v2⟩:=bZs (H:=H) a1;refine⟨.ref h1.objs.size,_,Z.laid (a:=h1.objs.size) (o:=.lst (B.map V.str)) (t':=i) (λb o e=>O b o (Nat.ne_of_lt (aB e)) (ah _ e)) (Nat.le_refl _) ⟨?_,out,c,v1,U⟩,rfl,q _ _ D a2 (bZc Y)⟩
 have:=a2.length_eq
 rw[ae,this];simpa using j
def fX4(K:Fg):List V->Hp->VK->Prop:=λxs H Q=>∃(x:V) (ns:List Int),xs=[x]/\Src K H x (ns.map V.int)/\∀(p:Addr) (out:List Int),H p=none->out.Perm ns->out.Pairwise (·<=·)->Q (.ref p) (upd H p (.lst (out.map V.int)))
theorem dQ0(hK:X.K=K:=by rfl)(hc:X.calm=true:=by rfl):CallR X (.builtin "sorted") (fX4 K):=by
 intro pins s σ H xs us Q I r h;obtain⟨x,ss,rfl,J,q⟩:=h;obtain⟨u,rfl,G⟩:=aX9 r;obtain⟨col,B⟩:=I.src hK J G;have len:∀{vals:List ad},Vals (ss.map V.int) vals->vals.length=ss.length:=λv=>by have:=v.length;simpa using this.symm
 refine aJi (I.ok.hd hc) col (λvals v=>by rw[len v];simpa using B) λvals h1 d i pv kp=>?_
 have D:H h1.objs.size=none:=(I.toks kp d i).hok.fresh (Nat.le_refl _);refine cJy (s:={s with heap:=h1.push (bV "list" vals.toArray 0),drawn:=d,toks:=i}) (av _ rfl) (bZ3 pv) (by rw[len pv];simpa using B) λout j h' c a1 a2 U O L=>⟨rfl,?_⟩
 have Y:=I.toks kp d i;refine⟨.ref h1.objs.size,_,Y.laid (a:=h1.objs.size) (o:=.lst (j.map V.int)) (t':=i) (λb o e=>L b o (Nat.ne_of_lt (aB e)) (ah _ e)) (Nat.le_refl _) ⟨?_,out,c,bQ7 a1,O⟩,rfl,q _ _ D a2 U⟩
 have:=a2.length_eq
 rw[ae,this];simpa using B
def fX5(K:Fg):List V->Hp->VK->Prop:=λxs H Q=>∃(x:V) (us:List V) (ds:List (List Str)),xs=[x]/\Src K H x us/\a9 (dT K dS H) us ds/\∀(p:Addr) (idx:List Nat),H p=none->idx.Perm (aI us.length)->(idx.map λi=>ds.getD i []).Pairwise (λa b=>HT.lexS b a=false)->(idx.map λi=>ds.getD i []).Perm ds->Q (.ref p) (upd H p (.lst (idx.map λi=>us.getD i V.non)))
theorem tsOf{pins:List (Addr×Obj)}{σ:St}{H:Hp}{s:aj}(I:Inv X pins σ H s)(hK:X.K=K){h':bj}(k:∀b o,s.heap.get? b=some o->h'.get? b=some o):∀{us:List V}{vs:List ad}{ds:List (List Str)},Vals us vs->a9 (dT K dS H) us ds->a9 (KS.TS h') vs ds
 |_,_,_,.nil,.nil=>.nil
 |_,_,_,.cons r q,.cons d p=>by
  refine .cons ?_ (tsOf I hK k q p);obtain⟨b,xs,e,j,pp⟩:=d;rw[e] at r;cases r;rw[<- hK] at j;obtain⟨i,B,⟨o,D,z⟩,_⟩:=I.tuple j;exact⟨b,i.toArray,rfl,⟨o,k b o D,z⟩,bQf pp B⟩
theorem cQz{us:List V}{vs:List ad}(p:Vals us vs):∀(idx:List Nat),(∀i∈idx,i<us.length)->Vals (idx.map λi=>us.getD i V.non) (idx.map λi=>vs.getD i cC)
 |[],_=>.nil
 |i::idx,h=>by
  refine .cons ?_ (cQz p idx λj d=>h j (am _ d));have hi:=h i ao;obtain⟨u,e,r⟩:=p.get (ag hi);show RelV (us.getD i V.non) (vs.getD i cC);rw[ai,ai,e,ag hi];exact r
theorem dQ1(hu:X.A.units+8<cQ)(hK:X.K=K:=by rfl)(hc:X.calm=true:=by rfl):CallR X (.builtin "sorted") (fX5 K):=by
 intro pins s σ H xs us Q I r h;obtain⟨x,ys,ds,rfl,hs,O,q⟩:=h;obtain⟨u,rfl,U⟩:=aX9 r;obtain⟨col,hz⟩:=I.src hK hs U;have hl:ys.length=ds.length:=cq O;refine aJi (I.ok.hd hc) col (λvals v=>by rw[<- v.length];exact hz) λvals h1 d j pv kp=>?_
 have D:=pv.length;have L:=I.toks kp d j;have J:H h1.objs.size=none:=L.hok.fresh (Nat.le_refl _);refine KS.sort_tupsL (s:={s with heap:=h1.push (bV "list" vals.toArray 0),drawn:=d,toks:=j}) (ds:=ds) (by show X.A.units+1+1<_;lia) (av _ rfl) (tsOf L hK (λb o e=>ah _ e) pv O) (by lia) λidx h' c B i2 Z g Y=>⟨rfl,?_⟩
 have G:∀i∈idx,i<ys.length:=λi hi=>by have:=bo.mp (B.mem_iff.mp hi);lia
 have il:idx.length=vals.length:=by have:=B.length_eq;simpa using this
 refine⟨.ref h1.objs.size,_,L.laid (a:=h1.objs.size) (o:=.lst (idx.map λi=>ys.getD i V.non)) (t':=j) (λb o e=>Y b o (Nat.ne_of_lt (aB e)) (ah _ e)) (Nat.le_refl _) ⟨?_,_,c,cQz pv idx G,g⟩,rfl,q _ idx J (by rw[D];exact B) i2 Z⟩
 rw[ae];lia
end
section
variable{κ:Type}[DecidableEq κ]
def valV(kvs:List (κ×V))(k:κ):Option V:=(kvs.find? λkv=>decide (kv.1=k)).map (·.2)
def putK(kvs:List (κ×V))(k:κ)(v:V):List (κ×V) :=
 if (kvs.any λkv=>decide (kv.1=k))=true then kvs.map (λkv=>if kv.1=k then (kv.1,v) else kv) else kvs++[(k,v)]
theorem bZw{p:κ×V}{r:List (κ×V)}{k:κ}(e:p.1=k):valV (p::r) k=some p.2:=by simp[valV,fA,e]
theorem bZx{p:κ×V}{r:List (κ×V)}{k:κ}(e:¬ p.1=k):valV (p::r) k=valV r k:=by simp[valV,fA,e]
theorem cZ0(k:κ):∀kvs:List (κ×V),(kvs.any λkv=>decide (kv.1=k))=(valV kvs k).isSome
 |[]=>rfl
 |p::r=>by
  rw[jw]
  by_cases e:p.1=k
  ·simp only[bZw e,decide_eq_true e,Bool.true_or,Option.isSome_some]
  ·rw[bZx e,decide_eq_false e,Bool.false_or];exact cZ0 k r
theorem bJu(kvs:List (κ×V))(k:κ)(v:V):(putK kvs k v).length<=kvs.length+1:=by
 unfold putK
 split
 ·rw[ae];omega
 ·rw[ar,aT,cZ];omega
theorem RelO.isSome_eq{o:Option V}{u:Option ad}(r:RelO o u):o.isSome=u.isSome:=by
 cases o with
 |none=>cases u with
  |none=>rfl
  |some _=>exact(show False from r).elim
 |some _=>cases u with
  |none=>exact(show False from r).elim
  |some _=>rfl
end
section
variable{X:Cx}{pins:List (Addr×Obj)}{σ:St}{H:Hp}{s:aj}{a:Addr}{y v:V}{u r:ad}{o:Option V}{A:bi}{E:ad->aj->Prop}
theorem Inv.big(I:Inv X pins σ H s):gv<s.heap.objs.size:=by
 have h:bq<s.heap.objs.size:=(I.mod.glob.keeps I.bk).lt;exact Nat.lt_trans (by decide) h
theorem eX2{h':bj}{t':Nat}{ob:HO}(I:Inv X pins σ H s)(mu:Mut (H a))(hs:dI a s.heap h')(he:∃q,h'.get? a=some q)(new:ObjOk X.prog X.w (upd H a ob) h' a ob) :
  Inv X pins σ (upd H a ob) {s with heap:=h',toks:=t'} :=
 I.write (x:=a) (e:=a) mu (.inl rfl) (λb q d z=>(hs.2 b d).trans z) he new
end
section
variable{X:Cx}{K:Fg}{pos:Pos}{k:Nat}
section
variable{elt target iter:Expr}{ifs:List Expr}{gs:List eW}{scope:Scope}{N':List Str}{is:List (Option Nat)}{wi:ID}{g:TG}{gd:GD}{tt:TD}{tv:Addr->TB}{tb:BD}{oc:Option Str}{m:ad->Env->Sem Unit}{b:Bool}
theorem aZ8(L L':List Nat)(hcalm:X.calm=true)(hN:X.N.Nodup)
  (hturn:∀it acc env,eI (.ListComp elt (⟨target,iter,ifs,0⟩::gs) scope pos) 0 it acc env=aZ2 target ifs iter.pos (m acc env) (.compLoop (.ListComp elt (⟨target,iter,ifs,0⟩::gs) scope pos) 0 it acc env) it env)
  (cp:Cap X.N scope N' is) (hL:∀σ,Free L (capt is σ)) (hi:PID K X target iter wi) (hgd:CG K L L' g gd)
  (hg:∀cl C fp s H,PG (aQc X N' scope cl C fp s H oc) target g) (ht:∀cl C fp s H,PTs (aQc X N' scope cl C fp s H oc) ifs (upT K tt)) (hbd:bXv K L' tv tb) (hb:∀cl C fp s H D,PB (aQc X N' scope cl C fp s H oc) (m (.ref D) (gL scope cl C X.env)) (tv D))
  (hcf:∀n acc,eP n scope.names acc=ocl oc n acc:=by intro _ _;rfl) (hpc:∀h,fS h scope.names=ohp oc h:=by intro _;rfl)
  (hkind:scope.kind=.function:=by rfl) (hcell:∀y∈scope.names,y.2=.cell->oc=some y.1:=by decide +kernel)
  (hu:∀y∈scope.names,scope.names.lookup y.1=some y.2:=by decide +kernel) (hoc:∀x,oc=some x->scope.names.lookup x=some .cell:=by intro x h;cases h <;> rfl)
  (hVb:okV scope.names X.env.scope.names=true:=by first|rfl|kernel_rfl)
  (hs:∀x,ca iter X.env x=pure x:=by intro _;rfl) :
  PD K X (.ListComp elt (⟨target,iter,ifs,0⟩::gs) scope pos) (eX1 b is wi gd tt tb):=.of (dZ7 hcalm hN hturn cp hi.o hg ht hb hcf hpc hkind hcell hu hoc hVb hs) (cJv hL hgd hbd)
theorem aJj{x:Str}{i:Nat}{pos' spos:Pos}(hix:X.N[i]?=some x)(hx:Loc X.env.scope x)(L L':List Nat)(hcalm:X.calm=true)(hN:X.N.Nodup)
  (hturn:∀it acc env,eI (.ListComp elt (⟨target,iter,ifs,0⟩::gs) scope pos) 0 it acc env=aZ2 target ifs iter.pos (m acc env) (.compLoop (.ListComp elt (⟨target,iter,ifs,0⟩::gs) scope pos) 0 it acc env) it env)
  (cp:Cap X.N scope N' is) (hL:∀σ,Free L (capt is σ)) (hi:PID K X target iter wi) (hgd:CG K L L' g gd)
  (hg:∀cl C fp s H,PG (aQc X N' scope cl C fp s H oc) target g) (ht:∀cl C fp s H,PTs (aQc X N' scope cl C fp s H oc) ifs (upT K tt)) (hbd:bXv K L' tv tb) (hb:∀cl C fp s H D,PB (aQc X N' scope cl C fp s H oc) (m (.ref D) (gL scope cl C X.env)) (tv D))
  (hcf:∀n acc,eP n scope.names acc=ocl oc n acc:=by intro _ _;rfl) (hpc:∀h,fS h scope.names=ohp oc h:=by intro _;rfl)
  (hkind:scope.kind=.function:=by rfl) (hcell:∀y∈scope.names,y.2=.cell->oc=some y.1:=by decide +kernel)
  (hu:∀y∈scope.names,scope.names.lookup y.1=some y.2:=by decide +kernel) (hoc:∀x,oc=some x->scope.names.lookup x=some .cell:=by intro x h;cases h <;> rfl)
  (hVb:okV scope.names X.env.scope.names=true:=by first|rfl|kernel_rfl)
  (hs:∀x,ca iter X.env x=pure x:=by intro _;rfl)
  (hsw:g7 (.ListComp elt (⟨target,iter,ifs,0⟩::gs) scope pos) (some (.Name x pos')) spos.line X.env=pure true:=by first|rfl|kernel_rfl) (hf:X.fn x=true\/X.env.scope.names.lookup x=some .local:=by first|exact .inl rfl|exact .inr rfl|assumption) :
  PSD K X (.Assign [.Name x pos'] (.ListComp elt (⟨target,iter,ifs,0⟩::gs) scope pos) spos) (dAsg (eX1 b is wi gd tt tb) (aZe i)):=.of (eQs hix hx hcalm hN hturn cp hi.o hg ht hb hcf hpc hkind hcell hu hoc hVb hs hsw hf) λY σ H G=>G.el λF S Γ E r B q c=>by
 refine cJv (tt:=tt) (b:=b) hL hgd hbd σ H _ ⟨F,S,Γ,_,r,B,q,λv d H1 U j J v1 O=>?_⟩;exact c.nx _ U _ H1 j J ((B.ext j).set v1 i) O
end
def dCut(t u:SD):SD:=λE Γ S=>∃M:Gm->Sto->Prop,t {E with nx:=M} Γ S/\∀Γ' S',M Γ' S'->u E Γ' S'
theorem bJv{st:Stmt}{rest:List Stmt}{t u:SD}(h1:PSD K X st t)(h2:PSsD K X rest u):PSsD K X (st::rest) (dCut t u):=.of (cQc h1.o h2.o) λG σ H ⟨F,S,Γ,E,r,g,⟨M,q,D⟩,c⟩ =>
 ⟨F,S,Γ,{E with nx:=M},r,g,q,fun Γ1 d σ1 H1 i j g1 B=>⟨F,d,Γ1,E,j,g1,D Γ1 d B,c.ext i⟩,c.rt,c.bk,c.ct⟩
abbrev SpD:=List D->Sto->DK->Prop
def spU(K:Fg)(sp:SpD):Sp:=λvs H Q _=>∃F S ds QD,Rp K F S H/\RepL K (mt S F) H ds vs/\sp ds S QD/\Cn K F S H QD Q
theorem aQ4{x:Str}{ps:List Str}{sp:SpD}{p:Pos}{e:Expr}{es:List Expr}{t:AD}(Df':Df X.prog X.w X.K X.mg X.base k x ps (spU K sp))(hr:Room k X.A)(hg:Gl X x)(ha:PAD K X (e::es) t)
  (hdb:(x==("__debug__":Str))=false:=by decide) (he:au (e::es) X.env=(false,eval e X.env)::au es X.env:=by rfl) (hpl:(cD pos (au es X.env)).any (·.1)=false:=by rfl) :
  PD K X (.Call (.Name x p) (e::es) [] pos) (dCB sp t):=.of (dZ5 Df' hr hg ha.o hdb he hpl) fun σ H Q d=>d.el λF S Γ QD r g q c =>
 ⟨F,S,Γ,_,r,g,q,λvs ds H1 D i j v1 B=>by
  show spU K sp (vs++[]) H1 Q E0;rw[bD];exact⟨F,D,ds,QD,j,v1,B,Cn.shift c i⟩⟩
inductive Frz(S S':Sto):D->D->Prop where
 |same (d:D):Frz S S' d d
 |ref {a:Addr}{xs ys:List D}(h:S a=some (.lst xs)) (h':S' a=none) (l:Frz S S' (.tup xs) (.tup ys)):Frz S S' (.ref a) (.lst ys)
 |nil:Frz S S' (.tup []) (.tup [])
 |cons {d e:D}{ds es:List D}(h:Frz S S' d e) (l:Frz S S' (.tup ds) (.tup es)):Frz S S' (.tup (d::ds)) (.tup (e::es))
theorem dJk{F:Am}{S S':Sto}{H:Hp}(r:Rp K F S H)(hs:∀a o,S' a=some o->S a=some o):∀{d e:D},Frz S S' d e->(∀v,RepV K (mt S F) H d v->RepV K (mt S' F) H e v)/\(∀ds es,d=.tup ds->e=.tup es->∀vs,RepL K (mt S F) H ds vs->RepL K (mt S' F) H es vs):=by
 intro d e h;have kp:Keep (mt S F) H (mt S' F) H:=(Ext.less (H:=H) hs).kp
 induction h with
 |same d=>exact⟨λv h=>h.keep kp,λds es e1 e2 vs l=>by cases e1;cases e2;exact l.keep kp⟩
 |@ref a xs ys h h' l O =>
  refine⟨λv i=>?_,λds es e1=>by cases e1⟩
  rw[rref i];obtain⟨us,U,J⟩:=r.obj a _ h;unfold RepV;refine⟨a,us,rfl,.inl ⟨λz=>?_,.inl U⟩,O.2 xs ys rfl rfl us J⟩;rcases z with z|z
  ·exact z h'
  ·rw[(r.frm a z).2] at h;cases h
 |nil=>exact⟨λv h=>h.keep kp,λds es e1 e2 vs l=>by cases e1;cases e2;exact l.keep kp⟩
 |@cons d e ds es h l B j =>
  have ls:∀vs,RepL K (mt S F) H (d::ds) vs->RepL K (mt S' F) H (e::es) vs:=λvs l=>by
   unfold RepL at l ⊢;obtain⟨v,vs,rfl,G,L⟩:=l;exact⟨v,vs,rfl,B.1 v G,j.2 ds es rfl rfl vs L⟩
  refine⟨λv i=>?_,λZ Y e1 e2 vs l=>by cases e1;cases e2;exact ls vs l⟩
  unfold RepV at i ⊢;obtain⟨a,us,rfl,t,l⟩:=i;exact⟨a,us,rfl,t.keep kp,ls us l⟩
def rtD(Q:DK):DK:=λd S=>∃d' S',(∀a o,S' a=some o->S a=some o)/\Frz S S' d d'/\Q d' S'
theorem aQj{Q:DK}{d:D}{S:Sto}(h:Q d S):rtD Q d S:=⟨d,S,λ_ _ e=>e,.same d,h⟩
theorem bJw{Q:DK}{d:D}{S S':Sto}(hs:∀a o,S' a=some o->S a=some o)(h:Q d S'):rtD Q d S:=⟨d,S',hs,.same d,h⟩
theorem dJl{Q:DK}{a:Addr}{xs:List D}{S S':Sto}(h:S a=some (.lst xs))(hs:∀a o,S' a=some o->S a=some o)(h':S' a=none)(q:Q (.lst xs) S'):rtD Q (.ref a) S:=⟨.lst xs,S',hs,.ref h h' (.same _),q⟩
def dZt(Q:DK):EndsD:={nx:=λ_ S=>rtD Q .non S,rt:=rtD Q}
def bZd(N:List Str)(ds:List D):Gm:=ds.map some++fI (N.length-ds.length) none
theorem cZ1{M:Am}{H:Hp}{N:List Str}{ds:List D}{vs:List V}(l:RepL K M H ds vs):RepG K M H (bZd N ds) (start N vs):=by
 have i:∀n,RepG K M H (fI n none) (fI n none):=λn=>by
  induction n with
  |zero=>exact rfl
  |succ n j=>exact⟨none,_,rfl,j⟩
 have gen:∀{ds:List D}{vs:List V}{g:Gm}{σ:St},RepL K M H ds vs->RepG K M H g σ->RepG K M H (ds.map some++g) (vs.map some++σ):=by
  intro ds
  induction ds with
  |nil=>intro vs g σ l h;unfold RepL at l;subst l;exact h
  |cons d ds j =>
   intro vs g σ l h;unfold RepL at l;obtain⟨v,vs,rfl,r,l⟩:=l;exact⟨v,_,rfl,r,j l h⟩
 unfold bZd start;rw[l.length];exact gen l (i _)
theorem aX1{P:aD}{w:aR}{mg:Str->Option ad}{base:bj}{x:Str}{st:Stmt}{N ps:List Str}{sp:SpD}(T:Tx K mg x st)(S:FnScope N ps (aQ5 st))
  (b:∀{f:Addr}{fd:d8},Fun K x x st f fd->Binds K fd ps []) (len:∀ds S Q,sp ds S Q->ds.length=ps.length)
  (h:∀ (f:Addr) (cdv:ad) (A:bi) (outer:List Env) (s:aj) (H:Hp) (E:XK),Room k (A.deeper (jr x (aQ5 st) s.heap.objs.size f cdv)) ->
   ∃t,PSsD K (cxOf CX0 P w K mg base N x (aQ5 st) f cdv A outer s H E).nox (aZp st) t/\∀ds S Q,sp ds S Q->t (dZt Q) (bZd N ds) S):Df P w K mg base (k+1) x ps (spU K sp):=by
 refine T.df b λ{f fd} Z=>Z.ok S (λvs H Q E B=>by obtain⟨F,S,ds,QD,r,l,i,c⟩:=B;rw[l.length];exact len ds S QD i) (λcdv A outer s H vs Q E' L B=>?_)
 obtain⟨F,S,ds,QD,r,l,i,c⟩:=B;obtain⟨t,h1,h2⟩:=h f cdv A outer s H E' L;have fin:∀v d H' S',Ext S H S' H'->Rp K F S' H'->RepV K (mt S' F) H' d v->rtD QD d S'->Q v H':=λv d H' S' D j v1 J=>by
  obtain⟨U,Y,G,O,q⟩:=J;exact c v U H' Y (D.trans (Ext.less G)) (j.less G) ((dJk j G O).1 v v1) q
 exact⟨_,h1.o,F,S,bZd N ds,dZt QD,r,cZ1 l,h2 ds S QD i,fun Γ' S' σ' H' D j g1 q=>fin .non .non H' S' D j (by unfold RepV;rfl) q,fin,λ_ _ _ _ _ _ _ q=>q.elim,λ_ _ _ _ _ _ _ q=>q.elim⟩
theorem fX6{M:Am}{H:Hp}:∀{as:List Int},RepL K M H (as.map D.int) (as.map V.int)
 |[]=>RepL.nil
 |a::as=>RepL.cons (by unfold RepV;rfl) fX6
def dMt(rd:D->List D->Sto->DK->Prop)(ck:D->Sto->Prop)(to:ED)(t:AD):ED:=fun Γ S Q=>to Γ S λo S1=>ck o S1/\t Γ S1 λds S2=>rd o ds S2 Q
def MtD(K:Fg)(T:String)(r:V->List V->Hp->VK->Prop)(rd:D->List D->Sto->DK->Prop)(ck:D->Sto->Prop):Prop :=
 (∀F S H d x,Rp K F S H->RepV K (mt S F) H d x->ck d S->tyV K T x H)/\∀F S H d ds x vs Q QD,Rp K F S H->RepV K (mt S F) H d x->RepL K (mt S F) H ds vs->rd d ds S QD->Cn K F S H QD Q->r x vs H Q
theorem e_bm{T id:String}{name:Str}{r:V->List V->Hp->VK->Prop}{rd:D->List D->Sto->DK->Prop}{ck:D->Sto->Prop}{o e:Expr}{es:List Expr}{to:ED}{t:AD}{apos cpos:Pos}(M:MtD K T r rd ck)
  (pa:PlainAttrs T) (slot:Slot T name id) (hty:typeOf (.builtin id)=pure (.type "method_descriptor")) (hm:MtR X id r) (ho:PD K X o to) (ha:PAD K X (e::es) t) (hK:X.K=K:=by rfl)
  (hbase:gb o name X.env (eval o X.env)=eval o X.env:=by rfl)
  (hfew:((cD cpos (au (e::es) X.env)).all (λx=>!x.1) && (iR cpos (fK [] X.env)).all (λx=>x.1.isSome)
   && decide ((e::es).length+([]:List gJ).length+(if ([]:List gJ).isEmpty then 0 else 1)<30))=true:=by rfl)
  (hline:(apos.endLine==cpos.line)=true:=by rfl) (hs:au (e::es) X.env=(false,eval e X.env)::au es X.env:=by rfl) (hplain:(cD cpos (au es X.env)).any (·.1)=false:=by rfl) :
  PD K X (.Call (.Attribute o name apos) (e::es) [] cpos) (dMt rd ck to t):=by
 subst hK;exact .of (fJs pa slot hty hm ho.o ha.o hbase hfew hline hs hplain) fun σ H Q J=>J.el λF S Γ QD r g q c =>
  ⟨F,S,Γ,_,r,g,q,λv d H1 G j B v1 ⟨Y,U⟩=>⟨M.1 F G H1 d v B v1 Y,F,G,Γ,_,B,g.ext j,U,λvs ds H2 Z i L v2 O=>M.2 F Z H2 d ds v vs Q QD L (v1.ext i) v2 O (Cn.shift c (j.trans i))⟩⟩
def ckL(d:D)(S:Sto):Prop:=match d with
 |.ref a=>∃xs,S a=some (.lst xs)
 |_=>False
theorem ty_L{F:Am}{S:Sto}{H:Hp}{d:D}{x:V}(r:Rp K F S H)(h:RepV K (mt S F) H d x)(c:ckL d S):tyV K "list" x H:=by
 cases d with
 |ref a =>
  obtain⟨xs,i⟩:=c;rw[rref h];obtain⟨us,j,_⟩:=r.obj a _ i;exact .inl ⟨rfl,us,SqL.of j⟩
 |_=>exact c.elim
theorem Cn.write{F:Am}{S:Sto}{H:Hp}{QD:DK}{Q:VK}(c:Cn K F S H QD Q)(r:Rp K F S H){a:Addr}{xs ys:List D}{us ws:List V}(hS:S a=some (.lst xs))(l:RepL K (mt S F) H ys ws){d:D}{v:V}(hv:RepV K (mt S F) H d v)(q:QD d (supd S a (.lst ys))):Q v (upd H a (.lst ws)):=by
 have i:S a≠none:=by rw[hS];exact λz=>by cases z
 have x:Ext S H (supd S a (.lst ys)) (upd H a (.lst ws)):=Ext.write i;exact c v d _ _ x (r.write i ⟨ws,aQ9,l.ext x⟩) (hv.ext x) q
def appD:D->List D->Sto->DK->Prop:=λo ds S Q=>match o,ds with
 |.ref a,[y]=>∃xs,S a=some (.lst xs)/\xs.length<sizeLine/\Q .non (supd S a (.lst (xs++[y])))
 |_,_=>False
theorem fX7:MtD K "list" cXk appD ckL:=⟨λF S H d x r h c=>ty_L r h c,λF S H d ds x vs Q QD r h l q c=>by
 match d,ds,q with
 |.ref a,[y],⟨xs,j,D,q⟩ =>
  obtain⟨v,rfl,B⟩:=l.one;obtain⟨us,G,i⟩:=r.obj a _ j;rw[rref h];exact⟨a,us,v,rfl,rfl,G,by rw[i.length];exact D,c.write r (us:=us) j (i.app (RepL.cons B RepL.nil)) (by unfold RepV;rfl) q⟩⟩
def dQ2:D->List D->Sto->DK->Prop:=λo ds S Q=>match o,ds with
 |.ref a,[.int i]=>∃xs j y,S a=some (.lst xs)/\i=(j:Nat)/\(j:Nat)<2^63/\xs[(j:Nat)]?=some y/\Q y (supd S a (.lst (xs.eraseIdx j)))
 |_,_=>False
theorem dZu:MtD K "list" dXu dQ2 ckL:=⟨λF S H d x r h c=>ty_L r h c,λF S H d ds x vs Q QD r h l q c=>by
 match d,ds,q with
 |.ref a,[.int i],⟨xs,j,y,D,hi,Y,L,q⟩ =>
  obtain⟨v,rfl,J⟩:=l.one;obtain⟨us,O,B⟩:=r.obj a _ D;obtain⟨z,e1,G⟩:=B.get L;rw[rref h,rint J];have U:j<us.length:=by
   rcases Nat.lt_or_ge j us.length with z|z
   ·exact z
   ·rw[bY z] at e1;cases e1
  have Z:seqIndex? i us.length=some j:=by
   subst hi
   have:ixN us.length (j:Int)=some j:=by unfold ixN;rw[if_pos (by lia),if_pos (by lia),cL]
   exact(bJd this).1
  exact⟨a,us,i,j,z,rfl,rfl,O,by lia,by subst hi;exact_mod_cast Y,Z,e1,c.write r (us:=us) D (B.erase j) G q⟩⟩
theorem bZy{o e:Expr}{to:ED}{t:AD}{apos cpos:Pos}(ho:PD K X o to)(ha:PAD K X [e] t)(hK:X.K=K:=by rfl)
  (hbase:gb o "append" X.env (eval o X.env)=eval o X.env:=by rfl)
  (hfew:((cD cpos (au [e] X.env)).all (λx=>!x.1) && (iR cpos (fK [] X.env)).all (λx=>x.1.isSome)
   && decide (([e]:List Expr).length+([]:List gJ).length+(if ([]:List gJ).isEmpty then 0 else 1)<30))=true:=by rfl)
  (hline:(apos.endLine==cpos.line)=true:=by rfl) (hs:au [e] X.env=(false,eval e X.env)::au [] X.env:=by rfl) (hplain:(cD cpos (au [] X.env)).any (·.1)=false:=by rfl) :
  PD K X (.Call (.Attribute o "append" apos) [e] [] cpos) (dMt appD ckL to t):=e_bm fX7 gC PySem.F.slot_list_append PySem.F.type_list_append bXh ho ha hK hbase hfew hline hs hplain
theorem eX3{o e:Expr}{to:ED}{t:AD}{apos cpos:Pos}(ho:PD K X o to)(ha:PAD K X [e] t)(hK:X.K=K:=by rfl)
  (hbase:gb o "pop" X.env (eval o X.env)=eval o X.env:=by rfl)
  (hfew:((cD cpos (au [e] X.env)).all (λx=>!x.1) && (iR cpos (fK [] X.env)).all (λx=>x.1.isSome)
   && decide (([e]:List Expr).length+([]:List gJ).length+(if ([]:List gJ).isEmpty then 0 else 1)<30))=true:=by rfl)
  (hline:(apos.endLine==cpos.line)=true:=by rfl) (hs:au [e] X.env=(false,eval e X.env)::au [] X.env:=by rfl) (hplain:(cD cpos (au [] X.env)).any (·.1)=false:=by rfl) :
  PD K X (.Call (.Attribute o "pop" apos) [e] [] cpos) (dMt dQ2 ckL to t):=e_bm dZu gC PySem.F.slot_list_pop PySem.F.type_list_pop dZ3 ho ha hK hbase hfew hline hs hplain
def ckS(d:D)(S:Sto):Prop:=match d with
 |.str _=>True
 |_=>False
def fX8(K:Fg):V->List V->Hp->VK->Prop:=λx vs H Q=>∃z y us ss,x=.str z/\vs=[y]/\(∃a,y=.ref a/\SqL K H a us)/\a9 (dS H) us ss/\(ss.map (·.length)).sum+ss.length*z.length<=16777216/\Q (.str (Txt.join z ss)) H
theorem eX4(hK:X.K=K:=by rfl):MtR X "str.join" (fX8 K):=by
 subst hK;intro pins s σ H x xs v us Q I i rs h;obtain⟨z,y,ws,ss,rfl,rfl,⟨a,rfl,sq⟩,p,B,q⟩:=h;obtain⟨t,rfl⟩:=i;obtain⟨u,rfl,ru⟩:=rs.one;cases ru;obtain⟨j,r,pl,_⟩:=I.list sq;exact join_list pl.isList (bJq p r) B λd k=>⟨.str _,H,I.tok k,⟨d,rfl⟩,q⟩
def fX9:D->List D->Sto->DK->Prop:=λo ds S Q=>match o,ds with
 |.str z,[d]=>∃ss,lsIs S d (ss.map D.str)/\(ss.map (·.length)).sum+ss.length*z.length<=16777216/\Q (.str (Txt.join z ss)) S
 |_,_=>False
theorem eX5:MtD K "str" (fX8 K) fX9 ckS:=⟨λF S H d x r h c=>by
 cases d with
 |str z=>rw[rstr h];exact rfl
 |_=>exact c.elim,λF S H d ds x vs Q QD r h l q c=>by
 match d,ds,q with
 |.str z,[d],⟨ss,h1,B,q⟩ =>
  obtain⟨v,rfl,i⟩:=l.one;obtain⟨a,us,rfl,sq,j⟩:=lsIs.sl r i h1;rw[rstr h];exact⟨z,_,us,ss,rfl,rfl,⟨a,rfl,sq⟩,aJh j,B,c.str r q⟩⟩
theorem fXa{o e:Expr}{to:ED}{t:AD}{apos cpos:Pos}(ho:PD K X o to)(ha:PAD K X [e] t)(hK:X.K=K:=by rfl)
  (hbase:gb o "join" X.env (eval o X.env)=eval o X.env:=by rfl)
  (hfew:((cD cpos (au [e] X.env)).all (λx=>!x.1) && (iR cpos (fK [] X.env)).all (λx=>x.1.isSome)
   && decide (([e]:List Expr).length+([]:List gJ).length+(if ([]:List gJ).isEmpty then 0 else 1)<30))=true:=by rfl)
  (hline:(apos.endLine==cpos.line)=true:=by rfl) (hs:au [e] X.env=(false,eval e X.env)::au [] X.env:=by rfl) (hplain:(cD cpos (au [] X.env)).any (·.1)=false:=by rfl) :
  PD K X (.Call (.Attribute o "join" apos) [e] [] cpos) (dMt fX9 ckS to t):=e_bm eX5 PySem.F.plainAttrs_str PySem.F.slot_str_join PySem.F.type_str_join (eX4 hK) ho ha hK hbase hfew hline hs hplain
end
end L2
set_option maxHeartbeats 1000000
namespace L2
open PySem PySem.Spec PyProof.Rows
def leS(a b:Str):Bool:=!HT.ltS b a
def leT(a b:List Str):Bool:=!HT.lexS b a
theorem bZz:∀a:List Str,HT.lexS a a=false
 |[]=>rfl
 |x::xs=>by rw[HT.lexS_cons,if_pos rfl,bZz xs]
theorem fXb(a b c:Str)(h:leS a b=true)(h':leS b c=true):leS a c=true:=by
 unfold leS at *
 rw[dr] at *
 cases e:HT.ltS c a with
 |false=>rfl
 |true =>
  by_cases d:b=a
  ·subst d;rw[h'] at e;cases e
  ·have:=HT.ltS_tr e (HT.ltS_tot h d)
   rw[h'] at this;cases this
theorem eX6(a b:Str):(leS a b||leS b a)=true:=by
 unfold leS;cases e:HT.ltS b a with
 |false=>rfl
 |true=>rw[HT.ltS_as e];rfl
theorem dZv{a b:Str}(h:leS a b=true)(h':leS b a=true):a=b:=by
 unfold leS at *
 rw[dr] at *
 exact aX λn=>by
  have:=HT.ltS_tot h (λz=>n z.symm)
  rw[h'] at this;cases this
theorem fXc(a b c:List Str)(h:leT a b=true)(h':leT b c=true):leT a c=true:=by
 unfold leT at *
 rw[dr] at *
 cases e:HT.lexS c a with
 |false=>rfl
 |true =>
  by_cases d:b=a
  ·subst d;rw[h'] at e;cases e
  ·have:=HT.lexS_tr e (HT.lexS_tot h d)
   rw[h'] at this;cases this
theorem eX7(a b:List Str):(leT a b||leT b a)=true:=by
 unfold leT;cases e:HT.lexS b a with
 |false=>rfl
 |true=>rw[HT.lexS_as e];rfl
theorem dZw{a b:List Str}(h:leT a b=true)(h':leT b a=true):a=b:=by
 unfold leT at *
 rw[dr] at *
 exact aX λn=>by
  have:=HT.lexS_tot h (λz=>n z.symm)
  rw[h'] at this;cases this
def srS(l:List Str):List Str:=l.mergeSort leS
def srT(l:List (List Str)):List (List Str):=l.mergeSort leT
def srI(l:List Int):List Int:=l.mergeSort λa b=>decide (a<=b)
theorem aJ2(l:List Str):(srS l).Perm l:=iA _ _
theorem aXk(l:List (List Str)):(srT l).Perm l:=iA _ _
theorem bX0(l:List Int):(srI l).Perm l:=iA _ _
theorem dJm(l:List Str):(srS l).Pairwise λa b=>leS a b=true:=gD fXb eX6 l
theorem fXd(l:List (List Str)):(srT l).Pairwise λa b=>leT a b=true:=gD fXc eX7 l
theorem dJn(l:List Int):(srI l).Pairwise λa b=>decide (a<=b)=true:=gD (le:=λa b=>decide (a<=b)) (λa b c h h'=>decide_eq_true (Int.le_trans (of_decide_eq_true h) (of_decide_eq_true h'))) (λa b=>by
 rcases Int.le_total a b with h|h
 ·rw[decide_eq_true h];rfl
 ·rw[decide_eq_true h,Bool.or_true]) l
theorem fXe{l out:List Str}(p:out.Perm l)(h:out.Pairwise λa b=>HT.ltS b a=false):out=srS l :=
 (p.trans (aJ2 l).symm).eq_of_pairwise (λ_ _ _ _ h h'=>dZv h h') (h.imp λh=>by unfold leS;rw[h];rfl) (dJm l)
theorem eX8{l out:List (List Str)}(p:out.Perm l)(h:out.Pairwise λa b=>HT.lexS b a=false):out=srT l :=
 (p.trans (aXk l).symm).eq_of_pairwise (λ_ _ _ _ h h'=>dZw h h') (h.imp λh=>by unfold leT;rw[h];rfl) (fXd l)
theorem fXf{l out:List Int}(p:out.Perm l)(h:out.Pairwise (·<=·)):out=srI l :=
 (p.trans (bX0 l).symm).eq_of_pairwise (λ_ _ _ _ h h'=>Int.le_antisymm (of_decide_eq_true h) (of_decide_eq_true h')) (h.imp λh=>decide_eq_true h) (dJn l)
section
variable{X:Cx}{K:Fg}{pos:Pos}{k:Nat}{e:Expr}{t:AD}{p:Pos}
def rSum(K:Fg):List V->Hp->VK->Prop:=λxs H Q=>∃(x:V) (ns:List Int),xs=[x]/\(∃a,x=.ref a/\SqL K H a (ns.map V.int))/\Q (.int ns.sum) H
theorem dZx(hK:X.K=K:=by rfl)(hc:X.calm=true:=by rfl):CallR X (.builtin "sum") (rSum K):=by
 subst hK;intro pins s σ H xs us Q I r h;obtain⟨x,ns,rfl,⟨a,rfl,sq⟩,q⟩:=h;obtain⟨u,rfl,rx⟩:=aX9 r;cases rx;obtain⟨B,j,pl,G⟩:=I.list sq;have hi:=bZ3 j;obtain⟨xs,d⟩:=hi.allInts.items;have hl:=pl.isList;rw[d] at hl;refine sum_intListG (I.ok.hd hc) hl λh' i t' D=>?_;have e:preSum (numAt xs) xs.size=ns.sum:=by
  have h1:numsOf (intItems xs).toList=ns:=by rw[<- d];exact hi.numsOf
  rw[nums_intItems] at h1;rw[preSum_eq,bI (by simp),h1]
 rw[e];exact⟨.int ns.sum,H,I.kept (t':=i) D,⟨t',rfl⟩,q⟩
theorem bJx{M:Am}{H:Hp}:∀{as:List Int}{xs:List V},RepL K M H (as.map D.int) xs->xs=as.map V.int
 |[],xs,h=>by rw[fv] at h;unfold RepL at h;exact h
 |a::as,xs,h=>by
  rw[bd] at h;unfold RepL at h;obtain⟨v,vs,rfl,r,l⟩:=h;unfold RepV at r;rw[r,bJx l];rfl
theorem dQ3{M:Am}{H:Hp}:∀{as:List Int},RepL K M H (as.map D.int) (as.map V.int)
 |[]=>RepL.nil
 |a::as=>RepL.cons (by unfold RepV;rfl) dQ3
theorem dQ4{M:Am}{H:Hp}:∀{as:List Str}{xs:List V},RepL K M H (as.map D.str) xs->xs=as.map V.str
 |[],xs,h=>by rw[fv] at h;unfold RepL at h;exact h
 |a::as,xs,h=>by
  rw[bd] at h;unfold RepL at h;obtain⟨v,vs,rfl,r,l⟩:=h;unfold RepV at r;rw[r,dQ4 l];rfl
theorem dQ5{M:Am}{H:Hp}:∀{as:List Str},RepL K M H (as.map D.str) (as.map V.str)
 |[]=>RepL.nil
 |a::as=>RepL.cons (by unfold RepV;rfl) dQ5
def sumD:RCD:=λds S Q=>match ds with
 |[d]=>∃ns:List Int,lsIs S d (ns.map D.int)/\Q (.int ns.sum) S
 |_=>False
theorem gQi(hg:Gl X "sum")(hm:X.mg "sum"=none)(ha:PAD K X [e] t)(hK:X.K=K:=by rfl)(hc:X.calm=true:=by rfl)(he:au [e] X.env=(false,eval e X.env)::au [] X.env:=by rfl)(hpl:(cD pos (au [] X.env)).any (·.1)=false:=by rfl):PD K X (.Call (.Name "sum" p) [e] [] pos) (dCB sumD t):=aXt (dZx hK hc) (by
 intro F S H ds vs Q QD r l h c
 match ds,h with
 |[d],⟨ns,h1,q⟩ =>
  obtain⟨v,rfl,i⟩:=l.one;obtain⟨a,us,rfl,sq,j⟩:=lsIs.sl r i h1;rw[bJx j] at sq;exact⟨_,ns,rfl,⟨a,rfl,sq⟩,c.int r q⟩) hg hm fQn ha (by decide) (by decide) he hpl
def keyD:Key->D
 |.inl i=>.int i
 |.inr x=>.str x
def srcIs(S:Sto)(d:D)(xs:List D):Prop:=match d with
 |.tup ys=>xs=ys
 |.lst ys=>xs=ys
 |.ref a=>S a=some (.lst xs)\/∃kvs,S a=some (.dk kvs)/\xs=kvs.map λp=>keyD p.1
 |_=>False
theorem dQ6{M:Am}{H:Hp}:∀{ks:List (Key×V)}{kvs:List (Key×D)},a9 (λ(p:Key×V) (q:Key×D)=>p.1=q.1/\RepV K M H q.2 p.2) ks kvs->RepL K M H (kvs.map λp=>keyD p.1) (ks.map λp=>kV p.1)
 |_,_,.nil=>RepL.nil
 |_,_,.cons (a:=a) (b:=b) h l=>by
  refine RepL.cons ?_ (dQ6 l);show RepV K M H (keyD b.1) (kV a.1);rw[h.1];cases b.1 <;> (unfold keyD kV RepV;rfl)
theorem srcIs.src{F:Am}{S:Sto}{H:Hp}(r:Rp K F S H){d:D}{v:V}{xs:List D}(h:RepV K (mt S F) H d v)(l:srcIs S d xs):∃us,Src K H v us/\RepL K (mt S F) H xs us:=by
 cases d with
 |tup ys=>cases l;obtain⟨a,us,rfl,sq,l⟩:=tup.st h;exact⟨us,⟨a,rfl,.inr (.inl sq)⟩,l⟩
 |lst ys=>cases l;obtain⟨a,us,rfl,sq,l⟩:=lsIs.sl r h (show lsIs S (.lst xs) xs from rfl);exact⟨us,⟨a,rfl,.inl sq⟩,l⟩
 |ref a =>
  rw[rref h];rcases l with l|⟨B,l,rfl⟩
  ·obtain⟨us,j,i⟩:=r.obj a _ l;exact⟨us,⟨a,rfl,.inl (SqL.of j)⟩,i⟩
  ·obtain⟨G,j,i⟩:=r.obj a _ l;exact⟨_,⟨a,rfl,.inr (.inr ⟨G,j,rfl⟩)⟩,dQ6 i⟩
 |_=>exact l.elim
def tupS(t:List Str):D:=.tup (t.map D.str)
def srtD(b:Bool):RCD:=λds S Q=>match ds with
 |[d]=>(∃ss:List Str,srcIs S d (ss.map D.str)/\newL b ((srS ss).map D.str) S Q)\/(∃ns:List Int,srcIs S d (ns.map D.int)/\newL b ((srI ns).map D.int) S Q) \/
  ∃ts:List (List Str),srcIs S d (ts.map tupS)/\newL b ((srT ts).map tupS) S Q
 |_=>False
def gQj(K:Fg):List V->Hp->VK->Prop:=λxs H Q=>fX3 K xs H Q\/fX4 K xs H Q\/fX5 K xs H Q
theorem bX1{S:Sto}{F:Am}{H:Hp}:∀{ts:List (List Str)}{us:List V},RepL K (mt S F) H (ts.map tupS) us->a9 (dT K dS H) us ts
 |[],us,h=>by rw[fv] at h;unfold RepL at h;subst h;exact .nil
 |a::as,xs,h=>by
  rw[bd] at h;unfold RepL at h;obtain⟨v,vs,rfl,r,l⟩:=h;exact .cons (bJt r) (bX1 l)
theorem dJo{M:Am}{H:Hp}{ds:List D}{us:List V}(l:RepL K M H ds us):∀(idx:List Nat),(∀i∈idx,i<us.length)->RepL K M H (idx.map λi=>ds.getD i .non) (idx.map λi=>us.getD i .non)
 |[],_=>RepL.nil
 |i::idx,h=>by
  have hi:=h i ao;refine RepL.cons ?_ (dJo l idx λj B=>h j (am _ B));obtain⟨d,G,rd⟩:=l.get' (ag hi);show RepV K M H (ds.getD i .non) (us.getD i .non);rw[ai,ai,G,ag hi];exact rd
theorem fXg{b:Bool}:bXs K (gQj K) (srtD b):=by
 intro F S H ds vs Q QD r l h c
 match ds,h with
 |[d],h =>
  obtain⟨v,rfl,J⟩:=l.one;rcases h with⟨ss,h1,q⟩|⟨ss,h1,q⟩|⟨ts,h1,q⟩
  ·obtain⟨us,B,j⟩:=h1.src r J;rw[dQ4 j] at B;exact .inl ⟨v,ss,rfl,B,λp out D O L=>by
    rw[fXe O L];exact c.new r D dQ5 q⟩
  ·obtain⟨us,B,j⟩:=h1.src r J;rw[bJx j] at B;exact .inr (.inl ⟨v,ss,rfl,B,λp out D O L=>by
    rw[fXf O L];exact c.new r D dQ3 q⟩)
  ·obtain⟨us,B,j⟩:=h1.src r J;refine .inr (.inr ⟨v,us,ts,rfl,B,bX1 j,λp idx D i1 Z Y=>c.new r D ?_ q⟩);have hl:=j.length;rw[ae] at hl;have G:∀i∈idx,i<us.length:=λi hi=>bo.mp (i1.mem_iff.mp hi)
   have:=dJo j idx G
   rw[<- eX8 Y Z,cg];have e:(idx.map λi=>(ts.map tupS).getD i .non)=idx.map (tupS∘λi=>ts.getD i []):=f6 λi hi=>by
    have U:i<ts.length:=by have:=G i hi;omega
    show(ts.map tupS).getD i .non=tupS (ts.getD i []);rw[ai,ai,aQ,ag U]
    rfl
   rw[<- e];exact this
theorem bX2{b:Bool}(hr:Room k X.A)(hg:Gl X "sorted")(hm:X.mg "sorted"=none)(ha:PAD K X [e] t)(hK:X.K=K:=by rfl)(hc:X.calm=true:=by rfl)(he:au [e] X.env=(false,eval e X.env)::au [] X.env:=by rfl)(hpl:(cD pos (au [] X.env)).any (·.1)=false:=by rfl):PD K X (.Call (.Name "sorted" p) [e] [] pos) (dCB (srtD b) t):=aXt ((cJz hK hc).or ((dQ0 hK hc).or (dQ1 (lt10 hr) hK hc))) fXg hg hm aZv ha (by decide) (by decide) he hpl
end
end L2
set_option maxHeartbeats 4000000
namespace L2
open PySem PySem.Spec PyProof.Rows
theorem aZ7{g:GD}{tt:TD}{tb:BD}{G:Sto->Prop}{Γ0:Gm}{xs acc:List D}{S:Sto}{Q:List D->Sto->Prop}(I:Nat->List D->Sto->Prop)(h0:I 0 acc S)
  (hs:∀i x acc S (N:List D->Sto->Prop),xs[i]?=some x->I i acc S->(∀acc' S',I (i+1) acc' S'->N acc' S')->G S/\g x Γ0 S fun Γ2 S2=>tt Γ2 S2 λb S3=>if b=true then tb Γ2 S3 acc N else N acc S3)
  (hd:∀acc S,I xs.length acc S->G S/\Q acc S):aZf g tt tb G Γ0 xs acc S Q:=by
 have gen:∀n i acc S,i+n=xs.length->I i acc S->aZf g tt tb G Γ0 (xs.drop i) acc S Q:=by
  intro n
  induction n with
  |zero =>
   intro i acc S hi h;have e:i=xs.length:=by lia
   subst e;rw[fV];exact hd acc S h
  |succ n j =>
   intro i acc S hi h;have d:i<xs.length:=by lia
   rw[aXf d];exact hs i xs[i] acc S (λacc' B=>aZf g tt tb G Γ0 (xs.drop (i+1)) acc' B Q) (ag d) h λacc' S' h'=>j (i+1) acc' S' (by lia) h'
 simpa using gen xs.length 0 acc S (by lia) h0
theorem aZ0{g:GD}{tb:SD}{G:Sto->Prop}{E:EndsD}{xs:List D}{Γ:Gm}{S:Sto}(I:Nat->Gm->Sto->Prop)(h0:I 0 Γ S)
  (hs:∀i x Γ S (N:Gm->Sto->Prop),xs[i]?=some x->I i Γ S->(∀Γ' S',I (i+1) Γ' S'->N Γ' S')->G S/\g x Γ S fun Γ2 S2=>tb {E with nx:=N,ct:=N,bk:=E.nx} Γ2 S2)
  (hd:∀Γ S,I xs.length Γ S->G S/\E.nx Γ S):forD g tb G E xs Γ S:=by
 have gen:∀n i Γ S,i+n=xs.length->I i Γ S->forD g tb G E (xs.drop i) Γ S:=by
  intro n
  induction n with
  |zero =>
   intro i Γ S hi h;have e:i=xs.length:=by lia
   subst e;rw[fV];exact hd Γ S h
  |succ n j =>
   intro i Γ S hi h;have d:i<xs.length:=by lia
   rw[aXf d];exact hs i xs[i] Γ S (forD g tb G E (xs.drop (i+1))) (ag d) h fun Γ' S' h'=>j (i+1) Γ' S' (by lia) h'
 simpa using gen xs.length 0 Γ S (by lia) h0
theorem aJy{α:Type}{i:Nat}{te:ED}{Γ0:Gm}{S:Sto}{Q:List D->Sto->Prop}{enc:α->D}{f:α->D}{xs:List α}{acc:List D}(h:∀x∈xs,∀Q:DK,Q (f x) S->te (Γ0.set i (some (enc x))) S Q)(hn:acc.length+xs.length<=sizeLine)
  (q:Q (acc++xs.map f) S):aZf (aZe i) dYes (bQk te) (λ_=>True) Γ0 (xs.map enc) acc S Q:=by
 induction xs generalizing acc with
 |nil=>exact⟨trivial,by simpa using q⟩
 |cons x xs j =>
  refine⟨trivial,?_⟩;show bQk te (Γ0.set i (some (enc x))) S acc (λd G=>aZf (aZe i) dYes (bQk te) (λ_=>True) Γ0 (xs.map enc) d G Q);refine h x ao _ ⟨by simp at hn;lia,j (λy B=>h y (am _ B)) (by simp at hn ⊢;lia) (by simpa using q)⟩
theorem aQr{α:Type}{i:Nat}{tt:TD}{te:ED}{Γ0:Gm}{S:Sto}{Q:List D->Sto->Prop}{enc:α->D}{p:α->Bool}{f:α->D}{xs:List α}{acc:List D}(ht:∀x∈xs,∀Q:Bool->Sto->Prop,Q (p x) S->tt (Γ0.set i (some (enc x))) S Q)(h:∀x∈xs,p x=true->∀Q:DK,Q (f x) S->te (Γ0.set i (some (enc x))) S Q)(hn:acc.length+xs.length<=sizeLine)
  (q:Q (acc++(xs.filter p).map f) S):aZf (aZe i) tt (bQk te) (λ_=>True) Γ0 (xs.map enc) acc S Q:=by
 induction xs generalizing acc with
 |nil=>exact⟨trivial,by simpa using q⟩
 |cons x xs j =>
  refine⟨trivial,?_⟩;show tt (Γ0.set i (some (enc x))) S _;refine ht x ao _ ?_;cases hp:p x with
  |true =>
   rw[if_pos rfl];refine h x ao hp _ ⟨by simp at hn;lia,j (λy d=>ht y (am _ d)) (λy d=>h y (am _ d)) (by simp at hn ⊢;lia) ?_⟩
   rw[cK,hp] at q;simpa using q
  |false =>
   rw[if_neg (by simp)]
   refine j (λy d=>ht y (am _ d)) (λy d=>h y (am _ d)) (by simp at hn ⊢;lia) ?_
   rw[cK,hp] at q;simpa using q
def sg(c:Nat):Str:=⟨#[c]⟩
theorem fXh(c:Nat):(sg c).length=1:=rfl
theorem dJp(a b:List Nat):((⟨a.toArray⟩:Str)++(⟨b.toArray⟩:Str))=⟨(a++b).toArray⟩:=by
 show Str.mk (a.toArray++b.toArray)=_;simp
theorem dZy:(aP "":Str)=⟨#[]⟩:=by decide
theorem eX9:∀cs:List Nat,Txt.join (aP "") (cs.map sg)=⟨cs.toArray⟩:=λcs=>by
 show cI.Str.glued _ _=_;rw[StrLaws.glued_eq_join]
 induction cs with
 |nil=>rfl
 |cons c cs i =>
  cases cs with
  |nil=>rfl
  |cons d cs =>
   rw[bd] at i;show sg c++aP ""++Str.join (aP "") (sg d::cs.map sg)=_;rw[i,dZy];show((⟨[c].toArray⟩:Str)++(⟨([]:List Nat).toArray⟩:Str))++(⟨(d::cs).toArray⟩:Str)=_;rw[dJp,dJp]
   rfl
theorem aJ3{α:Type}(f:α->D)(xs:List α)(lo hi:Option Int):cutD (xs.map f) lo hi=((xs.drop (HT.sIx xs.length 0 lo)).take (HT.sIx xs.length xs.length hi-HT.sIx xs.length 0 lo)).map f:=by
 unfold cutD;rw[ae,List.map_take,List.map_drop]
theorem dQ7{α β:Type}(f:α->β)(xs:List α)(i:Int):atI (xs.map f) i=(atI xs i).map f:=by
 unfold atI;rw[ae];cases ixN xs.length i with
 |none=>rfl
 |some j=>simp
theorem fXi{α:Type}{xs:List α}{i:Int}(h0:0<=i)(h1:i<xs.length):∃(h:i.toNat<xs.length),atI xs i=some xs[i.toNat]:=by
 have h:i.toNat<xs.length:=by lia
 refine⟨h,?_⟩
 have:=bQ5 (ag h)
 rwa [show((i.toNat:Nat):Int)=i by lia] at this
theorem bXx{n i:Nat}{x:D}(h:(rngD 0 n)[i]?=some x):i<n/\x=.int (i:Nat):=by
 obtain⟨h1,h2⟩:=aJ1 n 0 i x h;exact⟨h1,by rw[h2,j0]⟩
def Off(a:Addr)(S S':Sto):Prop:=∀b,b≠a->S' b=S b
theorem Off.trans{a:Addr}{S S1 S2:Sto}(h:Off a S S1)(h':Off a S1 S2):Off a S S2:=λb d=>(h' b d).trans (h b d)
section
variable{X:Cx}{K:Fg}{pos:Pos}
def zipD:List D->List D->List D
 |x::xs,y::ys=>.tup [x,y]::zipD xs ys
 |_,_=>[]
theorem bX3:∀(xs ys:List D) (i:Nat) (d:D),(zipD xs ys)[i]?=some d->∃x y,xs[i]?=some x/\ys[i]?=some y/\d=.tup [x,y]
 |[],_,i,d,h=>by simp[zipD] at h
 |_::_,[],i,d,h=>by simp[zipD] at h
 |x::xs,y::ys,0,d,h=>by simp[zipD] at h;exact⟨x,y,rfl,rfl,h.symm⟩
 |x::xs,y::ys,i+1,d,h=>by
  have h':(zipD xs ys)[i]?=some d:=by simpa [zipD] using h
  obtain⟨u,v,h1,h2,e⟩:=bX3 xs ys i d h';exact⟨u,v,by simpa using h1,by simpa using h2,e⟩
theorem cZ2:∀(xs ys:List D),(zipD xs ys).length=min xs.length ys.length
 |[],_=>by simp[zipD]
 |_::_,[]=>by simp[zipD]
 |x::xs,y::ys=>by simp[zipD,cZ2 xs ys]
theorem dZz{F:Am}{S:Sto}{H:Hp}{p:Addr}{x y:V}{d e:D}(r:Rp K F S H)(hp:H p=none)(rx:RepV K (mt S F) H d x)(ry:RepV K (mt S F) H e y):Ext S H S (upd H p (.tup [x,y]))/\Rp K F S (upd H p (.tup [x,y]))/\RepV K (mt S F) (upd H p (.tup [x,y])) (.tup [d,e]) (.ref p):=by
 have z:Ext S H S (upd H p (.tup [x,y])):=Ext.same (aQs hp);refine⟨z,r.same (aQs hp),?_⟩;unfold RepV;exact⟨p,_,rfl,.inl ⟨r.nmt hp,.inl aQ9⟩,RepL.cons (rx.ext z) (RepL.cons (ry.ext z) RepL.nil)⟩
end
end L2
set_option maxHeartbeats 1000000
namespace L2
open PySem PySem.Spec PyProof.Rows
section
variable{X:Cx}{K:Fg}{pos:Pos}{k:Nat}{e:Expr}{te:ED}
def repS(z:Str)(n:Int):Str:=if n=1 then z else ⟨(fI n.toNat z.cps).foldl (·++·) #[]⟩
theorem cZ3(a:Array Nat):∀(n:Nat) (acc:Array Nat),((fI n a).foldl (·++·) acc).size=acc.size+n*a.size
 |0,acc=>by simp
 |n+1,acc=>by
  rw[List.replicate_succ,j6,cZ3 a n,dq,Nat.succ_mul];omega
theorem cZ4{z:Str}{n:Int}(hz:z.length=1)(n1:1<=n):(repS z n).length=n.toNat:=by
 unfold repS
 split
 ·rename_i h;rw[hz,h];rfl
 ·show Array.size _=_;have d:z.cps.size=1:=hz;rw[cZ3,d];simp
def fXj:R2:=λx y H Q=>∃z n,x=.str z/\y=.int n/\z.length=1/\1<=n/\n<=100/\Q (.str (repS z n)) H
theorem eXa:OpR X (eC .Mult) fXj:=by
 intro pins s σ H x y v u Q I j i h;obtain⟨z,n,rfl,rfl,d,B,G,q⟩:=h;obtain⟨t,rfl⟩:=j;obtain⟨D,rfl⟩:=i;refine P.mul_str ?_ (λ_ _=>?_) (λ_ _=>?_) ?_
 ·rw[decide_eq_false (by omega),decide_eq_false (by omega)];rfl
 ·rw[d]
  have:=(Int.le_ediv_iff_mul_le (a:=1) (b:=2^63-1) (c:=n) (by omega)).mpr (by omega)
  omega
 ·rw[d];exact decide_eq_false (by rw[bu];omega)
 ·rw[if_neg (by omega)]
  unfold repS at q
  by_cases h1:n=1
  ·rw[if_pos (by rw[h1];rfl)]
   rw[if_pos h1] at q;exact⟨.str z,H,I,⟨_,rfl⟩,q⟩
  ·rw[if_neg (by rw[d];simp[h1])]
   have hl:=cZ4 d B;unfold repS at hl;rw[if_neg h1] at q hl;exact⟨by rw[hl,bu];omega,.str _,H,I.tok _,⟨_,rfl⟩,q⟩
def repD:R2D:=λd e S Q=>match d,e with
 |.str z,.int n=>z.length=1/\1<=n/\n<=100/\Q (.str (repS z n)) S
 |_,_=>False
theorem eXb:OpD K fXj repD:=by
 intro F S H d e x y Q QD r hd he h c
 match d,e,h with
 |.str z,.int n,⟨B,j,i,q⟩ =>
  rw[rstr hd,rint he];exact⟨z,n,rfl,rfl,B,j,i,c _ _ _ S (Ext.refl _ _) r (by unfold RepV;rfl) q⟩
theorem gQk{a b:Expr}{ta tb:ED}(ha:PD K X a ta)(hb:PD K X b tb):PD K X (.BinOp a .Mult b pos) (dOp repD ta tb):=e_op eXa eXb ha hb
end
section
variable{X:Cx}{K:Fg}{pos:Pos}{k:Nat}
def exrD:D->List D->Sto->DK->Prop:=λo ds S Q=>match o,ds with
 |.ref a,[.ref b]=>∃xs ys,S a=some (.lst xs)/\S b=some (.lst ys)/\xs.length+ys.length<=sizeLine/\Q .non (supd S a (.lst (xs++ys)))
 |_,_=>False
theorem fXk:MtD K "list" cXl exrD ckL:=⟨λF S H d x r h c=>ty_L r h c,λF S H d ds x vs Q QD r h l q c=>by
 match d,ds,q with
 |.ref a,[.ref b],⟨xs,ys,B,i,G,q⟩ =>
  obtain⟨v,rfl,D⟩:=l.one;obtain⟨us,J,j⟩:=r.obj a _ B;obtain⟨ws,hw,lw⟩:=r.obj b _ i;rw[rref h,rref D];exact⟨a,b,us,ws,rfl,rfl,J,hw,by rw[j.length,lw.length];exact G,c.write r (us:=us) B (j.app lw) (by unfold RepV;rfl) q⟩⟩
theorem cZ5{o e:Expr}{to:ED}{t:AD}{apos cpos:Pos}(ho:PD K X o to)(ha:PAD K X [e] t)(hK:X.K=K:=by rfl)
  (hbase:gb o "extend" X.env (eval o X.env)=eval o X.env:=by rfl)
  (hfew:((cD cpos (au [e] X.env)).all (λx=>!x.1) && (iR cpos (fK [] X.env)).all (λx=>x.1.isSome)
   && decide (([e]:List Expr).length+([]:List gJ).length+(if ([]:List gJ).isEmpty then 0 else 1)<30))=true:=by rfl)
  (hline:(apos.endLine==cpos.line)=true:=by rfl) (hs:au [e] X.env=(false,eval e X.env)::au [] X.env:=by rfl) (hplain:(cD cpos (au [] X.env)).any (·.1)=false:=by rfl) :
  PD K X (.Call (.Attribute o "extend" apos) [e] [] cpos) (dMt exrD ckL to t):=e_bm fXk gC PySem.F.slot_list_extend PySem.F.type_list_extend cXm ho ha hK hbase hfew hline hs hplain
def dQ8(r r':R2D)(ta tb tc:ED):ED:=fun Γ S Q=>ta Γ S λx S1=>tb Γ S1 λy S2=>r x y S2 λz S3=>∃k,z=.bl k/\(if k=true then tc Γ S3 λw S4=>r' y w S4 Q else Q (.bl false) S3)
theorem dX0{r r':R2}{rd rd':R2D}{ta tb tc:ED}(h:OpD K r rd)(h':OpD K r' rd'):∀σ H Q,upE K (dQ8 rd rd' ta tb tc) σ H Q->dXt r r' (upE K ta) (upE K tb) (upE K tc) σ H Q:=fun σ H Q Y=>Y.el λF S Γ QD r g q c =>
 ⟨F,S,Γ,_,r,g,q,λx d H1 S1 B r1 v1 q1=>⟨F,S1,Γ,_,r1,g.ext B,q1,λy e H2 S2 j r2 v2 q2=>h F S2 H2 d e x y _ _ r2 (v1.ext j) v2 q2 λv z H3 O i J D U=>by
  obtain⟨kk,e3,L⟩:=U;subst e3;refine⟨kk,rbl D,?_⟩;cases kk with
  |true=>exact⟨F,O,Γ,_,J,g.ext (B.trans (j.trans i)),L,λw f H4 S4 G r4 v4 q4=>h' F S4 H4 e f y w Q QD r4 (v2.ext (i.trans G)) v4 q4 λv z H5 S5 Z=>c v z H5 S5 (B.trans (j.trans (i.trans (G.trans Z))))⟩
  |false=>exact c _ _ _ O (B.trans (j.trans i)) J (rbl D▸D) L⟩⟩
theorem dX1{op op':CmpOp}{r r':R2}{rd rd':R2D}{a b c:Expr}{ta tb tc:ED}(ho:OpR X (cu op) r)(ho':OpR X (cu op') r')(h:OpD K r rd)(h':OpD K r' rd')(ha:PD K X a ta)(hb:PD K X b tb)(hc:PD K X c tc)
  (hm:lastMarks [op,op'] [b,c]=false:=by with_unfolding_all rfl):PTD K X (.Compare a [op,op'] [b,c] pos) (aXy (dQ8 rd rd' ta tb tc)):=.of (dQv ho ho' ha.o hb.o hc.o hm) fun σ H Q q=>dX0 h h' σ H _ (by
 obtain⟨F,S,Γ,QD,r,g,q,c⟩:=q;refine⟨F,S,Γ,_,r,g,q,λv d H1 D i j v1 ⟨b,e,B⟩=>?_⟩;subst e;exact⟨b,rbl v1,c b H1 D i j B⟩)
theorem eXc{a b c:Expr}{ta tb tc:ED}(ha:PD K X a ta)(hb:PD K X b tb)(hc:PD K X c tc)(hm:lastMarks [.Lt,.LtE] [b,c]=false:=by with_unfolding_all rfl) :
  PTD K X (.Compare a [.Lt,.LtE] [b,c] pos) (aXy (dQ8 (iiD0 λi j=>.bl (decide (i<j))) (iiD0 λi j=>.bl (decide (i<=j))) ta tb tc)):=dX1 op_lt fJl dZo dZo ha hb hc hm
end
end L2
set_option maxHeartbeats 4000000
namespace L2
open PySem PySem.Spec PyProof.Rows
end L2
set_option maxHeartbeats 1000000
namespace L2
open PySem PySem.Spec PyProof.Rows
end L2
set_option maxHeartbeats 4000000
namespace L2
open PySem PySem.Spec PyProof.Rows
section
variable{X:Cx}
def cZ6(w:aR)(K:Fg):List V->Hp->VK->Prop:=λxs H Q=>∃x ms,xs=[x]/\dSt w K H x ms/\ms.Nodup/\ms.length<300/\∀l ys out,H l=none->out.Perm ms->out.Pairwise (λa b=>HT.lexS a b=true)->a9 (dT K dS H) ys out->Q (.ref l) (upd H l (.lst ys))
theorem aZu{K:Fg}{w:aR}(hu:X.A.units+8<cQ)(hK:X.K=K:=by rfl)(hw:X.w=w:=by rfl)(hc:X.calm=true:=by rfl):CallR X (.builtin "sorted") (cZ6 w K):=by
 subst hw;intro pins s σ H xs us Q I r h;obtain⟨x,ms,rfl,⟨p,es,ep,t,ps,rfl,hH,hf,J,O,pp,rfl⟩,nd,Y,q⟩:=h;obtain⟨u,rfl,rx⟩:=aX9 r;cases rx;obtain⟨hg,_⟩:=I.hok p _ hH;have hl:es.size=ps.length:=by have:=cq pp;simpa using this
 have hpl':ps.length<300:=by simpa using Y
 have hh:=I.ok.hd hc;refine fY kind_sorted plain_sorted entry_sorted (args_sorted1 _) ?_;unfold cI.«sorted»;refine aa (m:=checkCount "sorted" 1 1 _) (af ?_);refine aa (ST.collectT (by simp[hh]) hg hf J O (by lia) λvals h1 d D kp=>?_)
 obtain⟨ps',j,B⟩:=ST.paired_perm D pp;have hvl:vals.length=ps'.length:=cq B;have hpl2:ps'.length=ps.length:=j.length_eq;have Z:Inv X pins σ H {s with heap:=h1,drawn:=d}:=(I.kept (t':=s.toks) kp).drawn d
 refine aa (jv ?_ (by rw[bu];lia))
 have G:(h1.push (bV "list" vals.toArray 0)).get? h1.objs.size=some (bV "list" vals.toArray 0):=av _ rfl;refine aa (bG (b9 slot_list_sort ⟨_,G,rfl⟩ entry_list_sort ?body (args_list_sort _)))
 case body =>
  refine KS.sort_tups (s:={s with heap:=h1.push (bV "list" vals.toArray 0),drawn:=d}) (ds:=ps'.map (·.2)) (by show X.A.units+1+1<_;lia) G (fZd Z hK (λb o e=>ah _ e) B) ((j.map (·.2)).nodup_iff.mpr nd) (by rw[bu];lia) λidx h' c i1 i2 i3 g kk=>⟨_,rfl,af ⟨_,rfl,?_⟩⟩
  have U:∀i∈idx,i<vals.length:=λi hi=>bo.mp (i1.mem_iff.mp hi);have zv:=KS.paired_idx B cC (V.non,[]) idx U;obtain⟨z1,z2⟩:=bZr zv;have eo:(idx.map λi=>(ps'.map (·.2)).getD i [])=(idx.map λi=>ps'.getD i (V.non,[])).map (·.2):=by
   rw[cg];exact f6 λi _=>cQt ps' i
  rw[eo] at i2 i3;have L:H h1.objs.size=none:=Z.hok.fresh (Nat.le_refl _);have sm:Same H (upd H h1.objs.size (.lst ((idx.map λi=>ps'.getD i (V.non,[])).map (·.1)))):=aQs L;have il:idx.length=vals.length:=by have:=i1.length_eq;simpa using this
  have I2:Inv X pins σ (upd H h1.objs.size (.lst ((idx.map λi=>ps'.getD i (V.non,[])).map (·.1)))) {s with heap:=h',drawn:=d}:=Z.laid (t':=s.toks) (λb o e=>kk b o (Nat.ne_of_lt (aB e)) (ah _ e)) (Nat.le_refl _)
   ⟨by simp only[ae];rw[bu];lia,_,c,z1,g⟩
  exact⟨.ref h1.objs.size,_,I2,rfl,q _ _ _ L (i3.trans (j.map (·.2))) i2 z2⟩
end
section
variable{X:Cx}{K:Fg}{pos:Pos}{k:Nat}{F:Am}{S:Sto}{H:Hp}
theorem Rp.ntup(r:Rp K F S H){a:Addr}{xs:List V}(h:Rd H a (.tup xs)):¬ mt S F a:=λz=>by
 have no:∀u,H a=some u->(∀ys,u≠.tup ys)->(∀o ys,u≠.frz o (.tup ys))->False:=λu e D B=>by
  rcases h with h|⟨o,h⟩
  ·rw[e] at h;exact D _ (aN h)
  ·rw[e] at h;exact B _ _ (aN h)
 rcases z with z|z
 ·cases e:S a with
  |none=>exact z e
  |some o =>
   have q:=r.obj a o e;cases o with
   |lst ds=>obtain⟨us,d,_⟩:=q;exact no _ d (λ_ z=>by cases z) λ_ _ z=>by cases z
   |dk i=>obtain⟨us,d,_⟩:=q;exact no _ d (λ_ z=>by cases z) λ_ _ z=>by cases z
   |dt i=>obtain⟨us,d,_⟩:=q;exact no _ d (λ_ z=>by cases z) λ_ _ z=>by cases z
   |tb ps G=>obtain⟨us,d,_⟩:=q;exact no _ d (λ_ z=>by cases z) λ_ _ z=>by cases z
   |ex f J hl=>obtain⟨us,d,j⟩:=hl _ _ _ q;exact no _ d (λ_ z=>by subst z;exact j) λ_ _ z=>by subst z;exact j
 ·obtain⟨⟨zs,e,ct⟩,_⟩:=r.frm a z;exact no _ e (λ_ z=>by subst z;exact ct) λ_ _ z=>by subst z;exact ct
theorem aJz(r:Rp K F S H):∀{xs:List V}{ts:List (List Str)},a9 (dT K dS H) xs ts->RepL K (mt S F) H (ts.map tupS) xs
 |_,_,.nil=>RepL.nil
 |_,_,.cons ⟨a,us,e,sq,p⟩ q=>by
  refine RepL.cons ?_ (aJz r q);subst e;unfold tupS RepV;refine⟨a,us,rfl,?_,cJk p⟩;rcases sq with h|h
  ·exact .inl ⟨r.ntup h,h⟩
  ·exact .inr (.inr h)
def eXd(b:Bool)(te:ED):ED:=fun Γ S Q=>te Γ S λd S1=>∃ts:List (List Str),lsIs S1 d (ts.map tupS)/\ts.length<300/\∀out:List (List Str),out.Nodup->(∀t,t∈out↔t∈ts)->out.Pairwise (λa b=>HT.lexS a b=true)->newL b (out.map tupS) S1 Q
theorem bQn{b:Bool}{e:Expr}{te:ED}{p p' pos':Pos}(hr:Room k X.A)(hg:Gl X "sorted")(hm:X.mg "sorted"=none)(hg':Gl X "set")(hm':X.mg "set"=none)(he:PD K X e te)(hK:X.K=K:=by rfl)(hc:X.calm=true:=by rfl)
  (h1:au [e] X.env=(false,eval e X.env)::au [] X.env:=by rfl) (h2:au [jN (.Name "set" p') [e] [] pos'] X.env=(false,eval (jN (.Name "set" p') [e] [] pos') X.env)::au [] X.env:=by rfl) (h3:(cD pos (au [] X.env)).any (·.1)=false:=by rfl) (h4:(cD pos' (au [] X.env)).any (·.1)=false:=by rfl) :
  PD K X (.Call (.Name "sorted" p) [.Call (.Name "set" p') [e] [] pos'] [] pos) (eXd b te) :=
 .of (aXi (aZu (lt64 hr) hK rfl hc) hg hm aZv (aX3 (aXv (cZz (lt64 hr) hK rfl hc) hg' hm' cXp (aX3 he.o aXu h1) (by decide) (by decide) h1 h4) aXu h2) (by decide) (by decide) h2 h3) fun σ H Q L=>L.el λF S Γ QD r g q c =>
 ⟨F,S,Γ,_,r,g,q,λv d H1 B U G v1 J=>by
  obtain⟨Y,hl,j,Z⟩:=J;obtain⟨a,us,rfl,sq,lu⟩:=lsIs.sl G v1 hl;refine⟨_,Y,rfl,⟨a,us,rfl,sq,bX1 lu⟩,by lia,λp ms H2 s2 nd mem st=>⟨_,ms,rfl,st,nd,?_,λl ys out i pm pw pp=>?_⟩⟩
  ·exact Nat.lt_of_le_of_lt (cJ5 nd mem).1 j
  ·have D:Rp K F B H2:=G.same s2;have O:Ext B H1 B H2:=Ext.same s2;exact Cn.new (Cn.shift c (U.trans O)) D i (aJz D pp) (Z out (pm.nodup_iff.mpr nd) (λt=>(pm.mem_iff).trans (mem t)) pw)⟩
end
end L2
set_option maxHeartbeats 1000000
namespace L2
open PySem PySem.Spec PyProof.Rows
section
variable{X:Cx}
def dSs(w:aR):Dn (List Str):=λH v ms=>∃p es ep t,v=.ref p/\H p=some (stO p es ep t)/\t.fits es.size=true/\t.led=ST.ledOf w/\(t.plain=true->es.size<=1)/\jo (es.toList.map (·.2)) ms
theorem bZe{P:aD}{w:aR}{h:bj}:∀{es:List (Int×ad)}{ms:List Str},a9 (λ(e:Int×ad) k=>(ST.strKd P w).is h k e.2) es ms->jo (es.map (·.2)) ms
 |_,_,.nil=>.nil
 |(a,v)::es,m::ms,.cons p q=>by
  have d:∃t,v=.str m t:=by
   unfold ST.strKd at p;simp only[dG] at p;cases v <;> simp[d6] at p;subst p;exact⟨_,rfl⟩
  obtain⟨t,rfl⟩:=d;exact .cons m t (bZe q)
def eXe(w:aR)(K:Fg):List V->Hp->VK->Prop:=λxs H Q=>∃x ds,xs=[x]/\dL K dS H x ds/\ds.length+1<=300/\∀p ms H',Same H H'->ms.Nodup->(∀k,k∈ms↔k∈ds)->dSs w H' (.ref p) ms->Q (.ref p) H'
theorem bJy{K:Fg}{w:aR}(hu:X.A.units+8<cQ)(hK:X.K=K:=by rfl)(hw:X.w=w:=by rfl)(hc:X.calm=true:=by rfl):CallR X (.type "set") (eXe w K):=by
 subst hK hw;intro pins s σ H xs us Q I r h;obtain⟨x,ds,rfl,⟨a,ys,rfl,U,p⟩,Y,q⟩:=h;obtain⟨u,rfl,rx⟩:=aX9 r;cases rx;obtain⟨O,D,pl,_⟩:=I.list U;refine ST.call_setK (ST.strKd X.prog X.w) (I.ok.hd hc) hu pl.isList (dJ1 p D) (by rw[aq,<- D.length,p.length];exact Y) λh' J ms M _ Z=>?_
 obtain⟨es,B,t,i,d,G⟩:=M.ex;have j:H s.heap.objs.size=none:=I.hok.fresh (Nat.le_refl _);have L:Same H (upd H s.heap.objs.size (stO s.heap.objs.size es B t)):=aQs j;refine⟨.ref s.heap.objs.size,_,I.laid (t':=J) (o:=stO s.heap.objs.size es B t) (λb o e=>Z b o (aB e) e) (Nat.le_refl _) ?_,rfl,q _ _ _ L M.nd M.mem ⟨_,es,B,t,rfl,aQ9,(ST.strKd X.prog X.w).fits i,d,λz=>(ST.strKd X.prog X.w).few i G M.nd z,bZe G⟩⟩;exact⟨(ST.strKd X.prog X.w).obj i,⟨_,(ST.strKd X.prog X.w).obj i⟩,λg1 g2 g k=>k _ g⟩
theorem bXy{l l':List ad}(p:l'.Perm l):∀{m:List Str},jo l m->∃m',m'.Perm m/\jo l' m':=by
 induction p with
 |nil=>intro m h;exact⟨m,.refl _,h⟩
 |cons x p J =>
  intro m h;cases h with
  |cons y t r =>
   obtain⟨m',D,h'⟩:=J r;exact⟨_::m',D.cons _,.cons _ _ h'⟩
 |swap x y l =>
  intro m h;cases h with
  |cons y t r =>
   cases r with
   |cons z u r=>exact⟨_,.swap _ _ _,.cons _ _ (.cons _ _ r)⟩
 |trans p q i d =>
  intro m h;obtain⟨L,B,h1⟩:=d h;obtain⟨G,j,h2⟩:=i h1;exact⟨G,j.trans B,h2⟩
def dQ9(w:aR):List V->Hp->VK->Prop:=λxs H Q=>∃x ms,xs=[x]/\dSs w H x ms/\ms.Nodup/\ms.length<300/\∀(l:Addr) (out:List Str),H l=none->out.Perm ms->out.Pairwise (λa b=>HT.ltS a b=true)->Q (.ref l) (upd H l (.lst (out.map V.str)))
theorem aJ4{w:aR}(hw:X.w=w:=by rfl)(hc:X.calm=true:=by rfl):CallR X (.builtin "sorted") (dQ9 w):=by
 subst hw;intro pins s σ H xs us Q I r h;obtain⟨x,ms,rfl,⟨p,es,ep,t,rfl,hH,hf,J,O,pp⟩,nd,h64,q⟩:=h;obtain⟨u,rfl,rx⟩:=aX9 r;cases rx;obtain⟨hg,_⟩:=I.hok p _ hH;have hl:es.size=ms.length:=by have:=pp.length;simpa using this
 have hh:=I.ok.hd hc;refine fY kind_sorted plain_sorted entry_sorted (args_sorted1 _) ?_;unfold cI.«sorted»;refine aa (m:=checkCount "sorted" 1 1 _) (af ?_);refine aa (ST.collectT (by simp[hh]) hg hf J O (by omega) λvals h1 d G kp=>?_)
 obtain⟨ms',i,j⟩:=bXy G pp;have hvl:vals.length=ms'.length:=j.length;have hml:ms'.length=ms.length:=i.length_eq;have I1:Inv X pins σ H {s with heap:=h1,drawn:=d}:=(I.kept (t':=s.toks) kp).drawn d
 refine aa (jv ?_ (by rw[bu];omega))
 have B:(h1.push (bV "list" vals.toArray 0)).get? h1.objs.size=some (bV "list" vals.toArray 0):=av _ rfl;refine aa (bG (b9 slot_list_sort ⟨_,B,rfl⟩ entry_list_sort (SF.treeK strKind_oneLt (s:={s with heap:=h1.push (bV "list" vals.toArray 0),drawn:=d}) B j.keysOf (λZ Y rest e=>keyKind_strs (by rw[<- e];exact j)) (by rw[bu];omega) λD a1 a2=>⟨_,rfl,?_⟩) (args_list_sort _)))
 refine af ⟨_,rfl,?_⟩;obtain⟨out,o1,L,o3⟩:=sorted_out_str j a1 a2;obtain⟨v1,_⟩:=bZs (H:=H) o1;have U:H h1.objs.size=none:=I1.hok.fresh (Nat.le_refl _);obtain⟨e,he⟩:=sortedHeap_at (out:=(aU D).map (·.2)) B;have hol:=L.length_eq;have I2:Inv X pins σ (upd H h1.objs.size (.lst (out.map V.str))) {s with heap:=hW (h1.push (bV "list" vals.toArray 0)) h1.objs.size vals ((aU D).map (·.2)),drawn:=d}:=I1.laid (t':=s.toks) (λb o g=>(sortedHeap_old (Nat.ne_of_lt (aB g)) (Nat.lt_trans (aB g) (aB B))).trans (ah _ g)) (Nat.le_refl _)
  ⟨by rw[ae,bu];omega,((aU D).map (·.2)).toList,e,v1,by rw[Array.toArray_toList];exact he⟩
 exact⟨.ref h1.objs.size,_,I2,rfl,q _ _ U (L.trans i) (dJ7 o3 ((L.trans i).nodup_iff.mpr nd))⟩
end
section
variable{X:Cx}{K:Fg}{pos:Pos}{k:Nat}
theorem eXf{M:Am}{H:Hp}:∀ss:List Str,RepL K M H (ss.map D.str) (ss.map V.str)
 |[]=>RepL.nil
 |s::ss=>RepL.cons (by unfold RepV;rfl) (eXf ss)
def dX2(b:Bool)(te:ED):ED:=fun Γ S Q=>te Γ S λd S1=>∃ss:List Str,lsIs S1 d (ss.map D.str)/\ss.length<300/\∀out:List Str,out.Nodup->(∀t,t∈out↔t∈ss)->out.Pairwise (λa b=>HT.ltS a b=true)->newL b (out.map D.str) S1 Q
theorem bXz{b:Bool}{e:Expr}{te:ED}{p p' pos':Pos}(hr:Room k X.A)(hg:Gl X "sorted")(hm:X.mg "sorted"=none)(hg':Gl X "set")(hm':X.mg "set"=none)(he:PD K X e te)(hK:X.K=K:=by rfl)(hc:X.calm=true:=by rfl)
  (h1:au [e] X.env=(false,eval e X.env)::au [] X.env:=by rfl) (h2:au [jN (.Name "set" p') [e] [] pos'] X.env=(false,eval (jN (.Name "set" p') [e] [] pos') X.env)::au [] X.env:=by rfl) (h3:(cD pos (au [] X.env)).any (·.1)=false:=by rfl) (h4:(cD pos' (au [] X.env)).any (·.1)=false:=by rfl) :
  PD K X (.Call (.Name "sorted" p) [.Call (.Name "set" p') [e] [] pos'] [] pos) (dX2 b te) :=
 .of (aXi (aJ4 rfl hc) hg hm aZv (aX3 (aXv (bJy (lt64 hr) hK rfl hc) hg' hm' cXp (aX3 he.o aXu h1) (by decide) (by decide) h1 h4) aXu h2) (by decide) (by decide) h2 h3) fun σ H Q J=>J.el λF S Γ QD r g q c =>
 ⟨F,S,Γ,_,r,g,q,λv d H1 B O D v1 G=>by
  obtain⟨ss,hl,j,Y⟩:=G;obtain⟨a,us,rfl,sq,lu⟩:=lsIs.sl D v1 hl;refine⟨_,ss,rfl,⟨a,us,rfl,sq,aJh lu⟩,by omega,λp ms H2 s2 nd mem st=>⟨_,ms,rfl,st,nd,Nat.lt_of_le_of_lt (cJ5 nd mem).1 j,λl out i pm Z=>?_⟩⟩
  have U:Rp K F B H2:=D.same s2;have L:Ext B H1 B H2:=Ext.same s2;exact Cn.new (Cn.shift c (O.trans L)) U i (eXf out) (Y out (pm.nodup_iff.mpr nd) (λt=>(pm.mem_iff).trans (mem t)) Z)⟩
end
end L2
set_option maxHeartbeats 4000000
namespace L2
open PySem PySem.Spec PyProof.Rows
end L2
set_option maxHeartbeats 1000000
namespace L2
open PySem PySem.Spec PyProof.Rows
section
variable{X:Cx}{K:Fg}{pos:Pos}
theorem fXl:bH "abs"=some (.builtin "abs"):=by decide +kernel
def absD:RCD:=λds S Q=>match ds with
 |[.int i]=>Q (.int (if i<0 then -i else i)) S
 |_=>False
theorem fXm{e:Expr}{t:AD}{p:Pos}(hg:Gl X "abs")(hm:X.mg "abs"=none)(ha:PAD K X [e] t)(he:au [e] X.env=(false,eval e X.env)::au [] X.env:=by rfl)(hpl:(cD pos (au [] X.env)).any (·.1)=false:=by rfl):PD K X (.Call (.Name "abs" p) [e] [] pos) (dCB absD t):=aXt dQx (by
 intro F S H ds vs Q QD r l h c
 match ds,h with
 |[.int i],q =>
  obtain⟨v,rfl,d⟩:=l.one;rw[rint d];exact⟨i,rfl,c _ _ _ S (Ext.refl _ _) r (by unfold RepV;rfl) q⟩) hg hm fXl ha (by decide) (by decide) he hpl
end
def emitOfS(elt:Expr)(acc:ad)(env:Env):Sem Unit:=eval elt env>>=λx=>fR elt.pos>>=λ_=>call (.builtin "set.add") [acc,x]>>=λ_=>pure ()
theorem bJ0(elt target iter:Expr)(ifs:List Expr)(scope:Scope)(pos:Pos)(it acc:ad)(env:Env) :
  eI (.SetComp elt [⟨target,iter,ifs,0⟩] scope pos) 0 it acc env=aZ2 target ifs iter.pos (emitOfS elt acc env) (.compLoop (.SetComp elt [⟨target,iter,ifs,0⟩] scope pos) 0 it acc env) it env:=by
 unfold aZ2 bQ9 emitOfS;show(fR iter.pos>>=λ_=>ff it>>=λr=>_)=_;refine bind_congr λ_=>bind_congr λr=>?_;cases r with
 |none=>rfl
 |some v =>
  show(eO target it v>>=λ_=>jq target env v>>=λ_=>(forIn ifs true _>>=λok=>_))=_;refine bind_congr λ_=>bind_congr λ_=>bind_congr λok=>?_;cases ok <;> rfl
theorem cX1(elt target iter t2 i2:Expr)(ifs ifs2:List Expr)(scope:Scope)(pos:Pos)(it acc:ad)(env:Env) :
  eI (.SetComp elt [⟨target,iter,ifs,0⟩,⟨t2,i2,ifs2,0⟩] scope pos) 0 it acc env=aZ2 target ifs iter.pos (innerOf (.SetComp elt [⟨target,iter,ifs,0⟩,⟨t2,i2,ifs2,0⟩] scope pos) i2 acc env) (.compLoop (.SetComp elt [⟨target,iter,ifs,0⟩,⟨t2,i2,ifs2,0⟩] scope pos) 0 it acc env) it env:=by
 unfold aZ2 bQ9 innerOf;show(fR iter.pos>>=λ_=>ff it>>=λr=>_)=_;refine bind_congr λ_=>bind_congr λr=>?_;cases r with
 |none=>rfl
 |some v =>
  show(eO target it v>>=λ_=>jq target env v>>=λ_=>(forIn ifs true _>>=λok=>_))=_;refine bind_congr λ_=>bind_congr λ_=>bind_congr λok=>?_;cases ok with
  |false=>rfl
  |true =>
   simp only[bind_assoc,jA]
   rfl
theorem cX2(elt target iter t2 i2:Expr)(ifs ifs2:List Expr)(scope:Scope)(pos:Pos)(it acc:ad)(env:Env) :
  eI (.SetComp elt [⟨target,iter,ifs,0⟩,⟨t2,i2,ifs2,0⟩] scope pos) 1 it acc env=aZ2 t2 ifs2 i2.pos (emitOfS elt acc env) (.compLoop (.SetComp elt [⟨target,iter,ifs,0⟩,⟨t2,i2,ifs2,0⟩] scope pos) 1 it acc env) it env:=by
 unfold aZ2 bQ9 emitOfS;show(fR i2.pos>>=λ_=>ff it>>=λr=>_)=_;refine bind_congr λ_=>bind_congr λr=>?_;cases r with
 |none=>rfl
 |some v =>
  show(eO t2 it v>>=λ_=>jq t2 env v>>=λ_=>(forIn ifs2 true _>>=λok=>_))=_;refine bind_congr λ_=>bind_congr λ_=>bind_congr λok=>?_;cases ok <;> rfl
def TKp(H H':Hp):Prop:=∀a xs,Rd H a (.tup xs)->Rd H' a (.tup xs)
abbrev PVk{κ:Type}(rp:Hp->V->κ->Prop)(H:Hp):ad->V×κ->Prop:=λv p=>RelV p.1 v/\rp H p.1 p.2
structure SKn(P:aD)(w:aR)(K:Fg)(κ:Type) where
 kd:Hp->ST.SetKd P w κ
 rp:Hp->V->κ->Prop
 pI:Array (Int×ad)->aZ->List κ->Prop
 toI:∀{X:Cx}{pins σ H s p es ep t} {ps:List (V×κ)},X.prog=P->X.w=w->X.K=K->Inv X pins σ H s->s.heap.get? p=some (ST.setOb es ep t)->pI es t (ps.map (·.2))->a9 (PVk rp H) (es.toList.map (·.2)) ps ->
  (kd H).I s.heap p es ep t/\a9 (λ(e:Int×ad) k=>(kd H).is s.heap k e.2) es.toList (ps.map (·.2))
 toIs:∀{X:Cx}{pins σ H s} {x:V}{v:ad}{k:κ},X.prog=P->X.w=w->X.K=K->Inv X pins σ H s->RelV x v->rp H x k->(kd H).is s.heap k v
 ofI:∀{H:Hp}{h:bj}{p es ep t} {ks:List κ},(kd H).I h p es ep t->ks.Nodup->a9 (λ(e:Int×ad) k=>(kd H).is h k e.2) es.toList ks->∃ps:List (V×κ),a9 (PVk rp H) (es.toList.map (·.2)) ps/\ps.map (·.2)=ks/\pI es t ks
 fr:∀led,pI #[] (.fresh 0 0 led) []
 mo:∀{H H':Hp}{v:V}{k:κ},TKp H H'->rp H v k->rp H' v k
def StV{P:aD}{w:aR}{K:Fg}{κ:Type}(kn:SKn P w K κ)(H:Hp)(p:Addr)(acc:List κ):Prop:=∃es ep t,∃ps:List (V×κ),H p=some (stO p es ep t)/\t.led=ST.ledOf w/\kn.pI es t (ps.map (·.2))/\a9 (PVk kn.rp H) (es.toList.map (·.2)) ps/\(ps.map (·.2)).Nodup/\∀k,k∈ps.map (·.2)↔k∈acc
theorem StV.keep{P:aD}{w:aR}{K:Fg}{κ:Type}{kn:SKn P w K κ}{H H':Hp}{p:Addr}{acc:List κ}(h:StV kn H p acc)(e:H' p=H p)(t:TKp H H'):StV kn H' p acc:=by
 obtain⟨es,D,tb,ps,h1,h2,B,j,i,d⟩:=h;exact⟨es,D,tb,ps,e.trans h1,h2,B,Paired.imp (λ_ _ z=>⟨z.1,kn.mo t z.2⟩) j,i,d⟩
theorem StV.at{P:aD}{w:aR}{K:Fg}{κ:Type}{kn:SKn P w K κ}{H:Hp}{p:Addr}{acc:List κ}(h:StV kn H p acc):∃φ,H p=some (.ext φ):=by
 obtain⟨es,d,tb,ps,h1,_⟩:=h;exact⟨_,h1⟩
theorem eXg{H:Hp}{p:Addr}{φ:bj->Prop}{o:HO}(h:H p=some (.ext φ)):TKp H (upd H p o):=λa xs r=>by
 have:a≠p:=by
  rintro rfl;rcases r with r|⟨o,r⟩ <;> rw[h] at r <;> cases r
 rcases r with r|⟨o',r⟩
 ·exact .inl (by rw[upd_ne this];exact r)
 ·exact .inr ⟨o',by rw[upd_ne this];exact r⟩
section
variable{X:Cx}{K:Fg}{κ:Type}[DecidableEq κ]
def cZ7{P:aD}{w:aR}(kn:SKn P w K κ)(p:Addr)(te:TE):TB:=fun σ H N=>te σ H λy H4=>∃acc k,StV kn H4 p acc/\kn.rp H4 y k/\acc.length+1<=300/\∀φ,StV kn (upd H4 p (.ext φ)) p (acc++[k])->N (upd H4 p (.ext φ))
theorem bX4{P:aD}{w:aR}{kn:SKn P w K κ}{elt:Expr}{te:TE}{p:Addr}(hxe:X.xe=λ_ _=>False)(hu:X.A.units+1<cQ)(hP:X.prog=P)(hw:X.w=w)(hK:X.K=K)(he:PE X elt te):PB X (emitOfS elt (.ref p) X.env) (cZ7 kn p te):=by
 intro pins s σ H N I h;unfold emitOfS;have h1:=he pins s σ H _ I h;rw[hxe] at h1;refine aa (thn h1 λy s1 ⟨v,H1,Y,r1,acc,k,st,rk,hn,n⟩=>aa (fB (aa ?_)));obtain⟨es,ep,t,ps,hp,U,hpi,hpp,hnd,O⟩:=id st;subst hP hw;obtain⟨ho,_⟩:=Y.hok p _ hp;obtain⟨i1,i2⟩:=kn.toI rfl rfl hK Y ho hpi hpp;have isk:=kn.toIs rfl rfl hK Y r1 rk;have M:ST.Mem (kn.kd H1) s1.heap p acc (ST.ledOf X.w) (ps.map (·.2)):=⟨⟨es,ep,t,i1,U,i2⟩,hnd,O⟩;refine b9 F.slot_set_add ⟨_,ho,rfl⟩ F.entry_set_add ?_ (F.args_set_add_2 _ _);unfold cI.«set.add» cI.Frozenset.oneOther;simp only[jI,bind_assoc];unfold jt;refine aa (af ?_)
 try dsimp only
 refine aa (af ?_)
 try dsimp only
 refine aa ?_;refine ST.addM (kn.kd H1) (show X.A.units+1<cQ by omega) M isk (by have:=M.size;omega) λh' tk ks' M' sb kp tk'=>?_
 show aH _ _ (ret cC) _ _ _;refine af ⟨_,rfl,af ?_⟩;obtain⟨B,D,t',G,i,i2'⟩:=M'.ex;obtain⟨ps',J,j,L⟩:=kn.ofI G M'.nd i2';have d:=(kn.kd H1).obj G;have I2:Inv X pins σ (upd H1 p (stO p B D t')) {s1 with heap:=h',toks:=tk}:=Y.write (x:=p) (e:=p) (by rw[hp];exact trivial) (.inl rfl) (λb u hb hu=>(sb.2 b hb).trans hu) ⟨_,d⟩ ⟨d,⟨_,d⟩,λg1 g2 g k=>k _ g⟩
 have Z:TKp H1 (upd H1 p (stO p B D t')):=eXg hp;refine⟨σ,_,I2,Wk.refl σ,n _ ⟨B,D,t',ps',aQ9,i,by rw[j];exact L,Paired.imp (λ_ _ z=>⟨z.1,kn.mo Z z.2⟩) J,by rw[j];exact M'.nd,by rw[j];exact M'.mem⟩⟩
end
end L2
namespace ST
open PySem PySem.SetTable PySem.Spec PyProof.Rows
end ST
namespace L2
open PySem PySem.Spec PyProof.Rows
def cX3(P:aD)(w:aR)(K:Fg):SKn P w K Str where
 kd:=λ_=>ST.strKd P w
 rp:=λ_ v k=>v=.str k
 pI:=λes t _=>t.fits es.size=true/\ElemsOf (dG P w) es.toList/\(t.plain=true->es=#[])
 toI:=λ{X pins σ H s p es ep t ps} _ _ _ _ ho hpi hp=>⟨⟨ho,hpi⟩,by
  generalize es.toList=l at hp
  induction l generalizing ps with
  |nil=>cases hp;exact .nil
  |cons e l ih =>
   cases hp with
   |cons h1 h2 =>
    refine .cons ?_ (ih h2);obtain⟨r,e1⟩:=h1;rw[e1] at r;obtain⟨t',e2⟩:=r;have e2:e.2=_:=e2;show d6 _ e.2=true;rw[e2];simp[d6]⟩
 toIs:=λ{X pins σ H s x v k} _ _ _ _ r e=>by
  rw[e] at r;obtain⟨t',e2⟩:=r;rw[e2];have z:d6 k (iL k t')=true:=by simp[d6]
  exact z
 ofI:=λ{H h p es ep t ks} hI nd hp=>by
  clear nd;refine(λ⟨ps,a,b⟩=>⟨ps,a,b,hI.2⟩) (?_:∃ps:List (V×Str),a9 (PVk (λ_ v k=>v=.str k) H) (es.toList.map (·.2)) ps/\ps.map (·.2)=ks);generalize es.toList=l at hp
  induction l generalizing ks with
  |nil=>cases hp;exact⟨[],.nil,rfl⟩
  |cons e l ih =>
   cases hp with
   |cons h1 h2 =>
    obtain⟨ps,a,b⟩:=ih h2;obtain⟨tk,e1⟩:=e8 (show d6 _ e.2=true from h1)
    exact⟨(.str _,_)::ps,.cons ⟨⟨tk,e1⟩,rfl⟩ a,by rw[bd,b]⟩
 fr:=λled=>⟨rfl,ST.empty_el,λ_=>rfl⟩
 mo:=λ_ h=>h
theorem fXn{K:Fg}{H H':Hp}{v:V}{k:List Str}(t:TKp H H')(h:dT K dS H v k):dT K dS H' v k:=by
 obtain⟨a,xs,e,sq,p⟩:=h;refine⟨a,xs,e,?_,p⟩;rcases sq with sq|sq
 ·exact .inl (t a xs sq)
 ·exact .inr sq
def bJz(P:aD)(w:aR)(K:Fg):SKn P w K (List Str) where
 kd:=λH=>ST.restr (ST.tupKd P w) λk v=>∃x,RelV x v/\dT K dS H x k
 rp:=λH v k=>dT K dS H v k
 pI:=λes t ks=>ST.SetI es t/\a9 (λ(e:Int×ad) k=>e.1=ST.hashT P w k) es.toList ks/\(t.plain=true->∀k∈ks,k=[])
 toI:=λ{X pins σ H s p es ep t ps} e1 e2 e3 I ho hpi hp=>by
  subst e1 e2 e3;obtain⟨h1,h2,h3⟩:=hpi;have is:a9 (λ(e:Int×ad) k=>(ST.TK X.prog X.w s.heap k e.2/\∃x,RelV x e.2/\dT X.K dS H x k)/\e.1=ST.hashT X.prog X.w k) es.toList (ps.map (·.2)):=by
   clear h3 h1 ho;generalize es.toList=l at hp h2
   induction l generalizing ps with
   |nil=>cases hp;exact .nil
   |cons e l ih =>
    cases hp with
    |cons q1 q2 =>
     cases h2 with
     |cons z1 z2 =>
      refine .cons ⟨⟨?_,_,q1.1,q1.2⟩,z1⟩ (ih q2 z2);obtain⟨r,b,ys,e3,hq,pp⟩:=q1;rw[e3] at r;have r:e.2=.ref b:=r;obtain⟨its,ri,tp,_⟩:=I.tuple hq;rw[r];exact dZe (K:=X.K) pp ri tp
  refine⟨⟨⟨⟨ho,h1⟩,λe he=>?_,λhpl e he=>?_⟩,λe he=>?_⟩,Paired.imp (λ_ _ z=>z.1) is⟩
  ·obtain⟨k,_,q⟩:=ST.paired_mem is e he;exact⟨k,q.1.1,q.2⟩
  ·obtain⟨k,hk,q⟩:=ST.paired_mem is e he;rw[h3 hpl k hk] at q;exact q.1.1
  ·obtain⟨k,_,q⟩:=ST.paired_mem is e he;exact⟨k,q.1⟩
 toIs:=λ{X pins σ H s x v k} e1 e2 e3 I r d=>by
  subst e1 e2 e3;refine⟨?_,x,r,d⟩;obtain⟨b,ys,e3,hq,pp⟩:=d;rw[e3] at r;have r:v=.ref b:=r;obtain⟨its,ri,tp,_⟩:=I.tuple hq;rw[r];exact dZe (K:=X.K) pp ri tp
 ofI:=λ{H h p es ep t ks} hI nd hp=>by
  obtain⟨ps,a,b⟩:=dZl (K:=K) (H:=H) hp;refine⟨ps,a,b.symm,hI.1.1.inv,?_,λhpl k hk=>?_⟩
  ·have hel:=hI.1.2.1;clear a b nd hI;generalize es.toList=l at hp hel
   induction l generalizing ks with
   |nil=>cases hp;exact .nil
   |cons e l ih =>
    cases hp with
    |cons q1 q2 =>
     refine .cons ?_ (ih q2 λe he=>hel e (am _ he));obtain⟨k,z1,z2⟩:=hel e ao;rw[z2,z1.inj q1.1]
  ·obtain⟨e,he,q⟩:=ST.paired_mem' hp k hk;exact q.1.inj (hI.1.2.2 hpl e he)
 fr:=λled=>⟨ST.fresh_ok _ _ _,.nil,λ_ k hk=>by cases hk⟩
 mo:=λt h=>fXn t h
theorem bX5{prog:aD}{w:aR}{A:bi}{R:Result->aj->Prop}{s:aj}{elt target iter:Expr}{ifs:List Expr}{rest:List eW}{scope:Scope}{pos:Pos}{it acc:ad}{env:Env}
  (h0:fu (aF prog w) A (.compLoop (.SetComp elt (⟨target,iter,ifs,0⟩::rest) scope pos) 0 it acc env) R s)
  (h:aH (aF prog w) A (jR it) (λit' s'=>fu (aF prog w) A (.compLoop (.SetComp elt (⟨target,iter,ifs,0⟩::rest) scope pos) 0 it' acc env) R s')
   (notedBy (aF prog w) A env λx s'=>R (.error x) s') s) :
  fu (aF prog w) A (.compStart (.SetComp elt (⟨target,iter,ifs,0⟩::rest) scope pos) 0 it acc env) R s:=by
 refine iu ?_;show aH _ _ ((compStart (.SetComp elt (⟨target,iter,ifs,0⟩::rest) scope pos) 0 it acc env).onRaise (λx=>do noteFrame x env;fR theWindowsPlace)) _ _ s
 refine wpAny_notedAt ?_;unfold compStart;show aH _ _ (ask>>=_) _ _ s;refine aa (dA (wpAny_ite ?_))
 split
 ·first
   |exact aa (af (af (jB rfl h0)))
   |exact af (jB rfl h0)
 ·refine aa (db ?_);show aH _ _ (fR iter.pos>>=_) _ _ s;exact aa (fB (aa (eA h (λit' s' h'=>af (jB rfl h')) λ_ _ x=>x)))
section
variable{X:Cx}{K:Fg}{κ:Type}{pins:List (Addr×Obj)}{σ:St}{H:Hp}{s:aj}
def bQo{P:aD}{w:aR}(kn:SKn P w K κ)(is:List (Option Nat))(wi:TI)(g:TG)(tt:TT)(tb:Addr->TB):TE:=fun σ H Q=>wi σ H λJ H1=>∀p,H1 p=none->∀φ,StV kn (upd H1 p (.ext φ)) p []->bJf J (capt is σ) g tt (tb p) (Q (.ref p)) (upd H1 p (.ext φ))
theorem comp_genS{P:aD}{w:aR}{kn:SKn P w K κ}(hw:X.w=w){elt target iter:Expr}{ifs:List Expr}{gs:List eW}{scope:Scope}{pos:Pos}{N':List Str}{is:List (Option Nat)}{wi:TI}{g:TG}{tt:TT}{tb:Addr->TB}{oc:Option Str}{m:ad->Env->Sem Unit}(hcalm:X.calm=true)(hN:X.N.Nodup)
  (hturn:∀it acc env,eI (.SetComp elt (⟨target,iter,ifs,0⟩::gs) scope pos) 0 it acc env=aZ2 target ifs iter.pos (m acc env) (.compLoop (.SetComp elt (⟨target,iter,ifs,0⟩::gs) scope pos) 0 it acc env) it env)
  (cp:Cap X.N scope N' is) (hi:PI X target iter wi)
  (hg:∀cl C fp s H,PG (aQc X N' scope cl C fp s H oc) target g) (ht:∀cl C fp s H,PTs (aQc X N' scope cl C fp s H oc) ifs tt) (hb:∀cl C fp s H D,PB (aQc X N' scope cl C fp s H oc) (m (.ref D) (gL scope cl C X.env)) (tb D))
  (hcf:∀n acc,eP n scope.names acc=ocl oc n acc) (hpc:∀h,fS h scope.names=ohp oc h)
  (hkind:scope.kind=.function) (hcell:∀y∈scope.names,y.2=.cell->oc=some y.1)
  (hu:∀y∈scope.names,scope.names.lookup y.1=some y.2) (hoc:∀x,oc=some x->scope.names.lookup x=some .cell)
  (hVb:okV scope.names X.env.scope.names=true)
  (hs:∀x,ca iter X.env x=pure x)
  {use:Option (ad->Sem Unit)}{Q:VK}{Qv:ad->aj->Prop}(I:Inv X pins σ H s) (h:bQo kn is wi g tt tb σ H Q)
  (fin:∀D C H5 s6,Inv X pins σ H5 s6->(∃m,s6.heap.Ns C m)->FrC X pins C H5->Q (.ref D) H5->compPost (aF X.prog X.w) X.A X.xe use Qv (.ref D) C (.ok .next) s6) :
  aH (aF X.prog X.w) X.A (comprehension (.SetComp elt (⟨target,iter,ifs,0⟩::gs) scope pos) scope X.env (firstIterPos (⟨target,iter,ifs,0⟩::gs) pos) (newSet (.type "set")) (firstAsync (⟨target,iter,ifs,0⟩::gs)) (firstIter (⟨target,iter,ifs,0⟩::gs) X.env) use) Qv X.xe s:=by
 have hV:=dXw hVb;have hV':∀x,(x,a8)∈scope.names->Vis X.env.scope x/\X.env.scope.names.lookup x≠some .local:=λx i=>hV (x,.free) i rfl;have hu':∀x,(x,a8)∈scope.names->scope.names.lookup x=some .free:=λx i=>hu (x,.free) i;have j:∀x∈scope.names,x.2=.local->scope.names.lookup x.1=some .local:=λx i hl=>by rw[hu x i,hl]
 obtain⟨cl,G,c1,c2,c3⟩:=aXo (env:=X.env) (scope:=scope) λx i=>I.ok.has x (by
  obtain⟨v,n⟩:=hV' x i;rcases v with v|v|v
  ·exact absurd v n
  ·exact .inl v
  ·exact .inr v)
 have hun:∀x,oc=some x->cl.lookup x=none:=λx i=>by
  cases e:cl.lookup x with
  |none=>rfl
  |some c =>
   have:=hu' x (c3 x c e)
   rw[hoc x i] at this;cases this
 refine wpAny_comprehension_free (use:=use) rfl hs G hkind j (thn (hi pins s σ H _ I h) λv s1 h1=>thn h1 λitv s2 h2=>?_);obtain⟨it,fp,tn,J,H2,rfl,I2,T,st2,f2,q2⟩:=h2;unfold newSet jZ;refine aa (aa (dA (af ?_)));dsimp only;refine bz ?_;have hD:H2 s2.heap.objs.size=none:=I2.hok.fresh (Nat.le_refl _);have fpl:∀b∈fp,b<s2.heap.objs.size:=λb hb=>by obtain⟨o,e,_⟩:=T.obj _ _ st2 b hb;exact aB e
 have led:(!(X.w.params.followText "set-order"))=ST.ledOf X.w:=rfl;have L:Inv X pins σ (upd H2 s2.heap.objs.size (stO s2.heap.objs.size #[] 0 (.fresh 0 0 (ST.ledOf X.w)))) {s2 with heap:=s2.heap.push (ST.setOb #[] 0 (.fresh 0 0 (ST.ledOf X.w)))} :=
  I2.laid (t':=s2.toks) (λb u e=>ah _ e) (Nat.le_refl _) ⟨av _ rfl,⟨_,av _ rfl⟩,λg1 g2 g k=>k _ g⟩
 have Z:tn 0 (s2.heap.push (ST.setOb #[] 0 (.fresh 0 0 (ST.ledOf X.w)))):=T.keep _ _ _ st2 λb hb o e=>ah _ e;have O:∀b∈fp,FpOk X pins (upd H2 s2.heap.objs.size (stO s2.heap.objs.size #[] 0 (.fresh 0 0 (ST.ledOf X.w)))) b:=λb hb=>⟨by rw[upd_ne (Nat.ne_of_lt (fpl b hb))];exact(f2 b hb).1,(f2 b hb).2⟩
 have B:∀b∈fp,b<(s2.heap.push (ST.setOb #[] 0 (.fresh 0 0 (ST.ledOf X.w)))).objs.size:=λb hb=>by rw[cx];exact Nat.lt_succ_of_lt (fpl b hb)
 have q3:=q2 _ hD _ (⟨#[],0,_,[],aQ9,by rw[<- hw];rfl,kn.fr _,.nil,fL,λ_=>Iff.rfl⟩:StV kn (upd H2 s2.heap.objs.size (stO s2.heap.objs.size #[] 0 (.fresh 0 0 (ST.ledOf X.w)))) _ [])
 show aH (aF X.prog X.w) X.A _ _ X.xe {s2 with heap:=s2.heap.push (ST.setOb #[] 0 (.fresh 0 0 (ST.ledOf X.w)))}
 change bJf _ _ _ _ _ _ (upd H2 s2.heap.objs.size (stO s2.heap.objs.size #[] 0 (.fresh 0 0 (ST.ledOf X.w)))) at q3;generalize hob:ST.setOb #[] 0 (.fresh 0 0 (ST.ledOf X.w))=ob at *
 generalize hso:stO s2.heap.objs.size #[] 0 (.fresh 0 0 (ST.ledOf X.w))=so at *
 generalize hDe:s2.heap.objs.size=D at *
 generalize hs3:({s2 with heap:=s2.heap.push ob}:aj)=s3 at *
 have hsh:s3.heap=s2.heap.push ob:=by rw[<- hs3]
 rw[<- hsh] at Z B;have ok:=bZ4 (N':=N') (cl:=cl) (oc:=oc) L O B hkind c1 c2 hcell hun;have I4:=bQb L ok hN c1 c2 hu' cp hV' hun;refine cXs ?_;rw[hcf,hpc];have kp:∀b o,s3.heap.get? b=some o->(ohp oc (s3.heap.push {cls:=.type "dict",data:=.dict #[]})).get? b=some o:=λb o e=>aJw (ah _ e);have Y:tn 0 (ohp oc (s3.heap.push {cls:=.type "dict",data:=.dict #[]})):=T.keep _ _ _ Z λb _ o e=>kp b o e;have f4:∀b∈fp,FpOk (aQc X N' scope (ocl oc (s3.heap.objs.size+1) cl) s3.heap.objs.size fp s3 (upd H2 D so) oc) [] (upd H2 D so) b:=λb hb =>
  ⟨(O b hb).1,(ok.exf b hb).1,ok.exfs b hb,.inl hb,(ok.exf b hb).2,λp hp=>absurd (show p∈([]:List (Addr×Obj)) from hp) (by simp)⟩
 have loop:=bZi (X:=aQc X N' scope (ocl oc (s3.heap.objs.size+1) cl) s3.heap.objs.size fp s3 (upd H2 D so) oc) (e:=.SetComp elt (⟨target,iter,ifs,0⟩::gs) scope pos) (d:=0) (acc:=.ref D)
  (R:=compPost (aF X.prog X.w) X.A X.xe use Qv (.ref D) s3.heap.objs.size) hcalm rfl (hturn _ _ _) rfl rfl T (hg _ _ _ _ _) (ht _ _ _ _ _) (hb _ _ _ _ _ D) I4 Y f4 q3 (by
   intro H5 s6 U _ qn;obtain⟨m6,n6,_⟩:=id U.loc;have un:Un (frs X.stack) fp (upd H2 D so) H5 s3.heap s6.heap:=U.base;have hok':HOk X.prog X.w H5 s6.heap:=U.hok;refine fin D s3.heap.objs.size H5 s6 (L.call' (s':=s6) (ch:=fp) U.os un hok' U.bare λb hb=>⟨(O b hb).2.2.2.1,(O b hb).2.1,(O b hb).2.2.2.2.1,(O b hb).2.2.2.2.2⟩) ⟨m6,n6⟩ ⟨U.free,Nat.ne_of_gt L.lt,L.sz,λx c e z=>?_,λp hp z=>?_⟩ qn
   ·obtain⟨v,q⟩:=L.cell x c e;exact absurd q.lt (by rw[z];exact Nat.lt_irrefl _)
   ·exact absurd (aB (L.pin p hp).1) (by rw[z];exact Nat.lt_irrefl _))
 exact bX5 loop (T.self _ 0 _ _ _ Y loop)
theorem bJ1{P:aD}{w:aR}{kn:SKn P w K κ}{elt target iter:Expr}{ifs:List Expr}{gs:List eW}{scope:Scope}{pos:Pos}{N':List Str}{is:List (Option Nat)}{wi:TI}{g:TG}{tt:TT}{tb:Addr->TB}{oc:Option Str}{m:ad->Env->Sem Unit}(hw:X.w=w)(hcalm:X.calm=true)(hN:X.N.Nodup)
  (hturn:∀it acc env,eI (.SetComp elt (⟨target,iter,ifs,0⟩::gs) scope pos) 0 it acc env=aZ2 target ifs iter.pos (m acc env) (.compLoop (.SetComp elt (⟨target,iter,ifs,0⟩::gs) scope pos) 0 it acc env) it env)
  (cp:Cap X.N scope N' is) (hi:PI X target iter wi)
  (hg:∀cl C fp s H,PG (aQc X N' scope cl C fp s H oc) target g) (ht:∀cl C fp s H,PTs (aQc X N' scope cl C fp s H oc) ifs tt) (hb:∀cl C fp s H D,PB (aQc X N' scope cl C fp s H oc) (m (.ref D) (gL scope cl C X.env)) (tb D))
  (hcf:∀n acc,eP n scope.names acc=ocl oc n acc:=by intro _ _;rfl) (hpc:∀h,fS h scope.names=ohp oc h:=by intro _;rfl)
  (hkind:scope.kind=.function:=by rfl) (hcell:∀y∈scope.names,y.2=.cell->oc=some y.1:=by decide +kernel)
  (hu:∀y∈scope.names,scope.names.lookup y.1=some y.2:=by decide +kernel) (hoc:∀x,oc=some x->scope.names.lookup x=some .cell:=by intro x h;cases h <;> rfl)
  (hVb:okV scope.names X.env.scope.names=true:=by first|rfl|kernel_rfl)
  (hs:∀x,ca iter X.env x=pure x:=by intro _;rfl) :
  PE X (.SetComp elt (⟨target,iter,ifs,0⟩::gs) scope pos) (bQo kn is wi g tt tb):=by
 intro pins s σ H Q I h;rw[arm_eval_SetComp];refine comp_genS hw hcalm hN hturn cp hi hg ht hb hcf hpc hkind hcell hu hoc hVb hs I h λD C G J B ⟨m,n⟩ j i=>?_;exact⟨m,n,λh' d=>⟨.ref D,G,j.gone B d,rfl,i⟩⟩
end
section
variable{X:Cx}{K:Fg}{pos:Pos}{k:Nat}{κ:Type}
theorem eXh{F:Am}{S S':Sto}{H H':Hp}(r:Rp K F S H)(x:Ext S H S' H'):TKp H H':=λa xs h=>by
 have d:S a=none:=aX λn=>r.ntup h (.inl n);rcases h with h|⟨o,h⟩
 ·exact .inl (x.keep _ _ d h)
 ·exact .inr ⟨o,x.keep _ _ d h⟩
def aX5{P:aD}{w:aR}(kn:SKn P w K κ)(enc:κ->D)(L:List Nat)(tv:Addr->TB)(td:BD):Prop:=∀D' F S H Γ σ acc N QD,Free L σ->F D'->Rp K F S H->RepG K (mt S F) H Γ σ->StV kn H D' acc->td Γ S (acc.map enc) QD ->
 (∀acc' S' H',ExtX D' S H S' H'->Rp K F S' H'->StV kn H' D' acc'->QD (acc'.map enc) S'->N H')->tv D' σ H N
def eXi(enc:κ->D)(te:ED):BD:=fun Γ S acc Q=>te Γ S λy S1=>∃k,y=enc k/\acc.length+1<=300/\Q (acc++[y]) S1
theorem extx_upd{D':Addr}{S:Sto}{H:Hp}{o:HO}:ExtX D' S H S (upd H D' o):=⟨λa o n _ e=>by rw[upd_ne n];exact e,λa h=>by
  by_cases e:a=D'
  ·subst e;rw[aQ9];exact λz=>by cases z
  ·rw[upd_ne e];exact h,λa h=>.inl h⟩
theorem eXj{D':Addr}{F:Am}{S:Sto}{H:Hp}{o:HO}(r:Rp K F S H)(hF:F D')(ho:Clt o):Rp K F S (upd H D' o) :=
 ⟨λa u e=>(r.obj a u e).keep (extx_upd.kp hF) (upd_ne (by rintro rfl;rw[(r.frm a hF).2] at e;cases e)),λa h=>by
   obtain⟨⟨ys,e,ct⟩,h2⟩:=r.frm a h
   by_cases z:a=D'
   ·subst z;exact⟨⟨_,aQ9,ho⟩,h2⟩
   ·exact⟨⟨ys,by rw[upd_ne z];exact e,ct⟩,h2⟩⟩
theorem cZ8{P:aD}{w:aR}{kn:SKn P w K κ}{enc:κ->D}(hrep:∀M H k v,RepV K M H (enc k) v->kn.rp H v k){L:List Nat}{te:ED}:aX5 kn enc L (λD'=>cZ7 kn D' (upE K te)) (eXi enc te):=by
 intro D' F S H Γ σ acc N QD _ G r g st q c;refine⟨F,S,Γ,_,r,g,q,λv d H1 S1 i J v1 ⟨k,e,U,O⟩=>?_⟩;have Y:S D'=none:=(r.frm D' G).2;obtain⟨φ0,h0⟩:=st.at
 have Z:H1 D'=H D':=by rw[h0];exact i.keep _ _ Y h0
 have B:StV kn H1 D' acc:=st.keep Z (eXh r i);subst e;refine⟨acc,k,B,hrep _ _ _ _ v1,by simpa using U,fun φ j=>c (acc++[k]) S1 _ (i.x.trans extx_upd) (eXj J G trivial) j (by rw[aW];exact O)⟩
theorem cZ9{P:aD}{w:aR}{kn:SKn P w K κ}{enc:κ->D}{L L':List Nat}{g:TG}{gd:GD}{tt:TD}{tv:Addr->TB}{tb:BD}(hg:CG K L L' g gd)(hb:aX5 kn enc L' tv tb){D':Addr}{F:Am}{S:Sto}{H:Hp}{Γ:Gm}{σ:St}{acc:List κ}{N:Hp->Prop}{QD:List D->Sto->Prop}{J:It}{xs:List D}{G:Sto->Prop}
  (f:Free L σ) (hF:F D') (r:Rp K F S H) (gm:RepG K (mt S F) H Γ σ) (st:StV kn H D' acc) (it:∀S2 H2,ExtX D' S H S2 H2->Rp K F S2 H2->G S2->(∀i d,xs[i]?=some d->J.go i H2/\∀x H3,J.yld i H2 x H3->Ext S2 H2 S2 H3/\Rp K F S2 H3/\RepV K (mt S2 F) H3 d x)/\J.stop xs.length H2)
  (q:aZf gd tt tb G Γ xs (acc.map enc) S QD) (c:∀acc' S' H',ExtX D' S H S' H'->Rp K F S' H'->StV kn H' D' acc'->QD (acc'.map enc) S'->N H'):bJf J σ g (upT K tt) (tv D') N H:=by
 refine⟨λi m H'=>m=xs.length-i/\i<=xs.length/\∃S' acc',ExtX D' S H S' H'/\Rp K F S' H'/\StV kn H' D' acc'/\aZf gd tt tb G Γ (xs.drop i) (acc'.map enc) S' QD,⟨xs.length,by simp,Nat.zero_le _,S,acc,(Ext.refl _ _).x,r,st,by simpa using q⟩,?_⟩
 rintro i m H' ⟨rfl,hi,S',acc',x2,r2,U,f2⟩;have g2:=gm.keep (x2.kp hF)
 by_cases Y:i<xs.length
 ·rw[aXf Y] at f2;obtain⟨hG,f2⟩:=f2;obtain⟨hgo,hy⟩:=(it S' H' x2 r2 hG).1 i xs[i] (ag Y);refine .inr ⟨hgo,λB=>∃Z j,ExtX D' S H Z B/\Rp K F Z B/\StV kn B D' j/\aZf gd tt tb G Γ (xs.drop (i+1)) (j.map enc) Z QD,λB z=>⟨xs.length-(i+1),by omega,rfl,Y,z⟩,λx H3 y3=>?_⟩
  obtain⟨x3,r3,v3⟩:=hy x H3 y3;refine hg F S' H3 Γ σ xs[i] x _ _ f r3 (g2.ext x3) v3 f2 fun Γ4 S4 σ4 H4 x4 r4 g4 wk fr4 q4=>⟨wk,F,S4,Γ4,_,r4,g4,q4,λz H5 S5 x5 r5 q5=>?_⟩;have O:=x3.trans (x4.trans x5);obtain⟨φ0,h0⟩:=U.at
  have h5:H5 D'=H' D':=by rw[h0];exact O.keep _ _ (r2.frm D' hF).2 h0
  have st5:StV kn H5 D' acc':=U.keep h5 (eXh r2 O);have x05:ExtX D' S H S5 H5:=x2.trans O.x;cases z with
  |false=>exact⟨S5,acc',x05,r5,st5,q5⟩
  |true=>exact hb D' F S5 H5 Γ4 σ4 acc' _ _ fr4 hF r5 (g4.ext x5) st5 q5 λacc6 S6 H6 x6 r6 st6 q6=>⟨S6,acc6,x05.trans x6,r6,st6,q6⟩
 ·have e:i=xs.length:=by omega
  subst e;rw[fV] at f2;exact .inl ⟨(it S' H' x2 r2 f2.1).2,c acc' S' H' x2 r2 U f2.2⟩
theorem dQa{P:aD}{w:aR}{kn:SKn P w K κ}{enc:κ->D}{L L':List Nat}{wi:ID}{g:TG}{gd:GD}{tt:TD}{tv:Addr->TB}{tb:BD}(hg:CG K L L' g gd)(hb:aX5 kn enc L' tv tb):aX5 kn enc L (λD'=>dXz (upI K wi) g (upT K tt) (tv D')) (fX2 wi gd tt tb):=by
 intro D' F S H Γ σ acc N QD fr B r Y st q c;refine⟨F,S,Γ,_,r,Y,q,λJ xs G H1 S1 j r1 it q1=>?_⟩;obtain⟨φ0,h0⟩:=st.at
 have h1:H1 D'=H D':=by rw[h0];exact j.keep _ _ (r.frm D' B).2 h0
 exact cZ9 hg hb fr B r1 (Y.ext j) (st.keep h1 (eXh r j)) (λZ H2 i O U=>⟨it.go F (FE.refl _ _) Z H2 (i.w B) O U,it.stop F (FE.refl _ _) Z H2 (i.w B) O U⟩) q1 λd S' H' i=>c d S' H' (j.x.trans i)
theorem cZa{P:aD}{w:aR}{kn:SKn P w K κ}{enc:κ->D}{L L':List Nat}{is:List (Option Nat)}{wi:ID}{g:TG}{gd:GD}{tt:TD}{tv:Addr->TB}{tb:BD}(hL:∀σ,Free L (capt is σ))(hg:CG K L L' g gd)(hb:aX5 kn enc L' tv tb)
  {σ:St}{H:Hp}{Q:VK}{F:Am}{S:Sto}{Γ:Gm}{QD:List D->Sto->Prop}(r:Rp K F S H) (gm:RepG K (mt S F) H Γ σ) (q:wi Γ S λxs G S1=>aZf gd tt tb G (cJu is Γ) xs [] S1 QD)
  (c:∀p ks H' S',Ext S H S' H'->Rp K F S' H'->StV kn H' p ks->QD (ks.map enc) S'->Q (.ref p) H'):bQo kn is (upI K wi) g (upT K tt) tv σ H Q :=
 ⟨F,S,Γ,_,r,gm,q,λJ xs G H1 S1 x1 U it q1 D' d φ st=>by
  have j:S1 D'=none:=U.sn d;have Z:FE F H1 (λa=>F a\/a=D'):=λa h=>h.elim .inl λe=>.inr (by rw[e];exact d)
  have nF:¬ F D':=λh=>by
   obtain⟨⟨ys,e,_⟩,_⟩:=U.frm D' h;rw[d] at e;cases e
  have xe:Ext S1 H1 S1 (upd H1 D' (.ext φ)):=Ext.same (aQs d);have kp:Keep (mt S1 F) H1 (mt S1 λa=>F a\/a=D') (upd H1 D' (.ext φ)):=xe.w.kpF Z;have O:Rp K (λa=>F a\/a=D') S1 (upd H1 D' (.ext φ)):=⟨λa o e=>(U.obj a o e).keep kp (upd_ne (by rintro rfl;rw[j] at e;cases e)),λa h=>by
   rcases h with h|h
   ·obtain⟨⟨ys,e,ct⟩,h2⟩:=U.frm a h;exact⟨⟨ys,by rw[upd_ne (by rintro rfl;rw[d] at e;cases e)];exact e,ct⟩,h2⟩
   ·subst h;exact⟨⟨_,aQ9,trivial⟩,j⟩⟩
  have old:∀ {i H2},ExtX D' S1 (upd H1 D' (.ext φ)) i H2->Ext S1 H1 i H2:=λ{i H2} y=>⟨λa o h e=>y.keep a o (by rintro rfl;rw[d] at e;cases e) h (by rw[upd_ne (by rintro rfl;rw[d] at e;cases e)];exact e),λa h=>y.live a (xe.live a h),λa h=>by
   rcases y.new a h with z|z
   ·exact .inl z
   ·by_cases e:a=D'
    ·subst e;exact .inr d
    ·rw[upd_ne e] at z;exact .inr z⟩
  refine cZ9 hg hb (hL σ) (F:=λa=>F a\/a=D') (.inr rfl) O ((gm.ext x1).keep kp |>.capt is) st (λi H2 y O hG=>⟨it.go _ Z i H2 (old y).w O hG,it.stop _ Z i H2 (old y).w O hG⟩) q1 λB S' H' y r3 Y q3=>?_
  have less:Keep (mt S' λa=>F a\/a=D') H' (mt S' F) H':=⟨λ_ _ _ e=>e,λa h _=>λz=>h (z.elim .inl λw=>.inr (.inl w))⟩;have r4:Rp K F S' H':=⟨λa o e=>(r3.obj a o e).keep less rfl,λa h=>r3.frm a (.inl h)⟩;exact c D' B H' S' (x1.trans (old y)) r4 Y q3⟩
def srtC(enc:κ->D)(lt:κ->κ->Bool)(b:Bool)(is:List (Option Nat))(wi:ID)(g:GD)(tt:TD)(tb:BD):ED:=fun Γ S Q=>wi Γ S λxs G S1=>aZf g tt tb G (cJu is Γ) xs [] S1 λacc S2=>∃ks:List κ,acc=ks.map enc/\∀out:List κ,out.Nodup->(∀t,t∈out↔t∈ks)->out.length<300/\(out.Pairwise (λa b=>lt a b=true)->newL b (out.map enc) S2 Q)
theorem eXk(M:Am)(H:Hp)(k:Str)(v:V)(h:RepV K M H (.str k) v):v=.str k:=by unfold RepV at h;exact h
theorem bQp{α β:Type}{f:α->β}(hf:∀x y,f x=f y->x=y):∀{l m:List α},l.map f=m.map f->l=m
 |[],[],_=>rfl
 |[],_::_,h=>by cases h
 |_::_,[],h=>by cases h
 |x::l,y::m,h=>by
  rw[bd,bd] at h;injection h with h1 h2
  rw[hf _ _ h1,bQp hf h2]
theorem dX3(x y:List Str)(h:tupS x=tupS y):x=y:=by
 unfold tupS at h;injection h with h
 exact bQp (λa b e=>by injection e) h
section
variable{elt target iter:Expr}{ifs:List Expr}{gs:List eW}{scope:Scope}{N':List Str}{is:List (Option Nat)}{wi:ID}{g:TG}{gd:GD}{tt:TD}{tv:Addr->TB}{tb:BD}{oc:Option Str}{m:ad->Env->Sem Unit}{b:Bool}{p pos':Pos}
theorem eXl(L L':List Nat)(hr:Room k X.A)(hgl:Gl X "sorted")(hm:X.mg "sorted"=none)(hcalm:X.calm=true)(hN:X.N.Nodup)
  (hturn:∀it acc env,eI (.SetComp elt (⟨target,iter,ifs,0⟩::gs) scope pos') 0 it acc env=aZ2 target ifs iter.pos (m acc env) (.compLoop (.SetComp elt (⟨target,iter,ifs,0⟩::gs) scope pos') 0 it acc env) it env)
  (cp:Cap X.N scope N' is) (hL:∀σ,Free L (capt is σ)) (hi:PID K X target iter wi) (hgd:CG K L L' g gd)
  (hg:∀cl C fp s H,PG (aQc X N' scope cl C fp s H oc) target g) (ht:∀cl C fp s H,PTs (aQc X N' scope cl C fp s H oc) ifs (upT K tt)) (hbd:aX5 (cX3 X.prog X.w K) D.str L' tv tb) (hb:∀cl C fp s H D,PB (aQc X N' scope cl C fp s H oc) (m (.ref D) (gL scope cl C X.env)) (tv D))
  (hcf:∀n acc,eP n scope.names acc=ocl oc n acc:=by intro _ _;rfl) (hpc:∀h,fS h scope.names=ohp oc h:=by intro _;rfl)
  (hkind:scope.kind=.function:=by rfl) (hcell:∀y∈scope.names,y.2=.cell->oc=some y.1:=by decide +kernel)
  (hu:∀y∈scope.names,scope.names.lookup y.1=some y.2:=by decide +kernel) (hoc:∀x,oc=some x->scope.names.lookup x=some .cell:=by intro x h;cases h <;> rfl)
  (hVb:okV scope.names X.env.scope.names=true:=by first|rfl|kernel_rfl)
  (hs:∀x,ca iter X.env x=pure x:=by intro _;rfl)
  (h1:au [j3 elt (⟨target,iter,ifs,0⟩::gs) scope pos'] X.env=(false,eval (j3 elt (⟨target,iter,ifs,0⟩::gs) scope pos') X.env)::au [] X.env:=by rfl) (h3:(cD pos (au [] X.env)).any (·.1)=false:=by rfl) :
  PD K X (.Call (.Name "sorted" p) [.SetComp elt (⟨target,iter,ifs,0⟩::gs) scope pos'] [] pos) (srtC D.str HT.ltS b is wi gd tt tb) :=
 .of (aXi (aJ4 rfl hcalm) hgl hm aZv (aX3 (bJ1 (kn:=cX3 X.prog X.w K) rfl hcalm hN hturn cp hi.o hg ht hb hcf hpc hkind hcell hu hoc hVb hs) aXu h1) (by decide) (by decide) h1 h3) fun σ H Q U=>U.el λF S Γ QD r gm q c =>
  show bQo (cX3 X.prog X.w K) is (upI K wi) g (upT K tt) tv σ H (λv H1=>dQ9 X.w [v] H1 Q) from cZa hL hgd hbd r gm q λp' ks H' S' Y Z st O=>by
   obtain⟨ks',hk,i⟩:=O;have j:ks=ks':=bQp (λa b e=>by injection e) hk
   subst j;obtain⟨es,ep,t,ps,s1,s2,s3,s4,s5,d⟩:=st;obtain⟨J,q3⟩:=i (ps.map (·.2)) s5 d;have sa:jo (es.toList.map (·.2)) (ps.map (·.2)):=by
    clear J q3 s5 d s3 i s1;generalize es.toList.map (·.2)=l at s4
    induction s4 with
    |nil=>exact .nil
    |@cons v q l2 ps h1 h2 ih =>
     obtain⟨h1,G⟩:=h1;rw[G] at h1;obtain⟨tk,e⟩:=h1;subst e;exact .cons _ _ ih
   refine⟨_,ps.map (·.2),rfl,⟨p',es,ep,t,rfl,s1,s3.1,s2,λz=>by rw[s3.2.2 z];exact Nat.zero_le _,sa⟩,s5,J,λl out B pm pw=>?_⟩
   exact Cn.new (Cn.shift c Y) Z B (eXf out) ((i out (pm.nodup_iff.mpr s5) λt=>(pm.mem_iff).trans (d t)).2 pw)
theorem dQb(L L':List Nat)(hr:Room k X.A)(hgl:Gl X "sorted")(hm:X.mg "sorted"=none)(hcalm:X.calm=true)(hN:X.N.Nodup)
  (hturn:∀it acc env,eI (.SetComp elt (⟨target,iter,ifs,0⟩::gs) scope pos') 0 it acc env=aZ2 target ifs iter.pos (m acc env) (.compLoop (.SetComp elt (⟨target,iter,ifs,0⟩::gs) scope pos') 0 it acc env) it env)
  (cp:Cap X.N scope N' is) (hL:∀σ,Free L (capt is σ)) (hi:PID K X target iter wi) (hgd:CG K L L' g gd)
  (hg:∀cl C fp s H,PG (aQc X N' scope cl C fp s H oc) target g) (ht:∀cl C fp s H,PTs (aQc X N' scope cl C fp s H oc) ifs (upT K tt)) (hbd:aX5 (bJz X.prog X.w K) tupS L' tv tb) (hb:∀cl C fp s H D,PB (aQc X N' scope cl C fp s H oc) (m (.ref D) (gL scope cl C X.env)) (tv D))
  (hcf:∀n acc,eP n scope.names acc=ocl oc n acc:=by intro _ _;rfl) (hpc:∀h,fS h scope.names=ohp oc h:=by intro _;rfl)
  (hkind:scope.kind=.function:=by rfl) (hcell:∀y∈scope.names,y.2=.cell->oc=some y.1:=by decide +kernel)
  (hu:∀y∈scope.names,scope.names.lookup y.1=some y.2:=by decide +kernel) (hoc:∀x,oc=some x->scope.names.lookup x=some .cell:=by intro x h;cases h <;> rfl)
  (hVb:okV scope.names X.env.scope.names=true:=by first|rfl|kernel_rfl)
  (hs:∀x,ca iter X.env x=pure x:=by intro _;rfl) (hK:X.K=K:=by rfl)
  (h1:au [j3 elt (⟨target,iter,ifs,0⟩::gs) scope pos'] X.env=(false,eval (j3 elt (⟨target,iter,ifs,0⟩::gs) scope pos') X.env)::au [] X.env:=by rfl) (h3:(cD pos (au [] X.env)).any (·.1)=false:=by rfl) :
  PD K X (.Call (.Name "sorted" p) [.SetComp elt (⟨target,iter,ifs,0⟩::gs) scope pos'] [] pos) (srtC tupS HT.lexS b is wi gd tt tb) :=
 .of (aXi (aZu (lt64 hr) hK rfl hcalm) hgl hm aZv (aX3 (bJ1 (kn:=bJz X.prog X.w K) rfl hcalm hN hturn cp hi.o hg ht hb hcf hpc hkind hcell hu hoc hVb hs) aXu h1) (by decide) (by decide) h1 h3) fun σ H Q O=>O.el λF S Γ QD r gm q c =>
  show bQo (bJz X.prog X.w K) is (upI K wi) g (upT K tt) tv σ H (λv H1=>cZ6 X.w K [v] H1 Q) from cZa hL hgd hbd r gm q λp' ks H' S' U B st J=>by
   obtain⟨ks',hk,G⟩:=J;have d:ks=ks':=bQp dX3 hk;subst d;obtain⟨es,ep,t,ps,s1,s2,s3,s4,s5,j⟩:=st;obtain⟨Y,q3⟩:=G (ps.map (·.2)) s5 j;have few:t.plain=true->es.size<=1:=λz=>by
    have hl:es.size=ps.length:=by have:=cq s4;simpa using this
    have h0:=s3.2.2 z;rw[hl];cases ps with
    |nil=>exact Nat.zero_le _
    |cons a ps =>
     cases ps with
     |nil=>exact Nat.le_refl _
     |cons b ps =>
      simp only[bd] at s5 h0;rw[h0 a.2 (by simp),h0 b.2 (by simp)] at s5
      exact absurd s5 (by simp)
   refine⟨_,ps.map (·.2),rfl,⟨p',es,ep,t,ps,rfl,s1,s3.1.fits,s2,few,s4,rfl⟩,s5,Y,λl ys out i pm Z pp=>?_⟩;exact Cn.new (Cn.shift c U) B i (aJz B pp) ((G out (pm.nodup_iff.mpr s5) λt=>(pm.mem_iff).trans (j t)).2 Z)
end
end
end L2
set_option maxHeartbeats 4000000
namespace HT
open PySem PyProof.Rows
end HT
namespace L2
open PySem PySem.Spec PyProof.Rows
def lexN(lt:D->D->Bool):List D->List D->Bool
 |[],[]=>false
 |[],_::_=>true
 |_::_,[]=>false
 |x::xs,y::ys=>if x=y then lexN lt xs ys else lt x y
def ltN:Nat->D->D->Bool
 |_,.int i,.int j=>decide (i<j)
 |_,.str x,.str y=>HT.ltS x y
 |n+1,.tup xs,.tup ys=>lexN (ltN n) xs ys
 |n+1,.lst xs,.lst ys=>lexN (ltN n) xs ys
 |_,_,_=>false
def okLs(ok:D->D->Bool)(n:Nat):List D->List D->Bool
 |x::xs,y::ys=>okE n x y&&(if x=y then okLs ok n xs ys else ok x y)
 |_,_=>true
def okL:Nat->D->D->Bool
 |_,.int _,.int _=>true
 |_,.str _,.str _=>true
 |n+1,.tup xs,.tup ys=>okLs (okL n) n xs ys
 |n+1,.lst xs,.lst ys=>okLs (okL n) n xs ys
 |_,_,_=>false
end L2
set_option maxHeartbeats 1000000
namespace L2
open PySem PySem.Spec PyProof.Rows
def Kp(h h':bj):Prop:=∀b o,h.get? b=some o->h'.get? b=some o
end L2
set_option maxHeartbeats 4000000
namespace L2
open PySem PySem.Spec PyProof.Rows
end L2
set_option maxHeartbeats 1000000
namespace L2
open PySem PySem.Spec PyProof.Rows
section
variable{X:Cx}{K:Fg}{pos:Pos}{k:Nat}
theorem eXm(M:Am)(H:Hp)(k:List Str)(v:V)(h:RepV K M H (tupS k) v):dT K dS H v k:=by
 unfold tupS RepV at h;obtain⟨a,xs,e,t,l⟩:=h;exact⟨a,xs,e,t.sq,aJh l⟩
theorem fXo{P:aD}{w:aR}{L:List Nat}{te:ED}:aX5 (cX3 P w K) D.str L (λD'=>cZ7 (cX3 P w K) D' (upE K te)) (eXi D.str te):=cZ8 eXk
theorem dJq{P:aD}{w:aR}{L:List Nat}{te:ED}:aX5 (bJz P w K) tupS L (λD'=>cZ7 (bJz P w K) D' (upE K te)) (eXi tupS te):=cZ8 eXm
end
end L2
namespace L2
open PySem PyProof.Rows
section
variable{K:ax}{k:Nat}
theorem e_fn{P:aD}{w:aR}{mg:Str->Option ad}{base:bj}{x:Str}{st:Stmt}{N ps:List Str}{sp:SpD}{f:Addr}{fd:d8}(Fn:Fun K x x st f fd)(S:FnScope N ps (aQ5 st))
  (len:∀ds S Q,sp ds S Q->ds.length=ps.length)
  (h:∀ (cdv:ad) (A:bi) (outer:List Env) (s:aj) (H:Hp) (E:XK),Room k (A.deeper (jr x (aQ5 st) s.heap.objs.size f cdv)) ->
   ∃t,PSsD K (cxOf CX0 P w K mg base N x (aQ5 st) f cdv A outer s H E).nox (aZp st) t/\∀ds S Q,sp ds S Q->t (dZt Q) (bZd N ds) S):FnOk P w K mg base CX0 (k+1) f fd ps (spU K sp):=by
 refine Fn.ok S (λvs H Q E B=>by obtain⟨F,S,ds,QD,r,l,i,c⟩:=B;rw[l.length];exact len ds S QD i) (λcdv A outer s H vs Q Z L B=>?_)
 obtain⟨F,S,ds,QD,r,l,i,c⟩:=B;obtain⟨t,h1,h2⟩:=h cdv A outer s H Z L;have fin:∀v d H' S',Ext S H S' H'->Rp K F S' H'->RepV K (mt S' F) H' d v->rtD QD d S'->Q v H':=λv d H' S' D j v1 J=>by
  obtain⟨U,Y,G,O,q⟩:=J;exact c v U H' Y (D.trans (Ext.less G)) (j.less G) ((dJk j G O).1 v v1) q
 exact⟨_,h1.o,F,S,bZd N ds,dZt QD,r,cZ1 l,h2 ds S QD i,fun Γ' S' σ' H' D j g1 q=>fin .non .non H' S' D j (by unfold RepV;rfl) q,fin,λ_ _ _ _ _ _ _ q=>q.elim,λ_ _ _ _ _ _ _ q=>q.elim⟩
end
theorem us1{p:List ad->Prop}(h:∀a,p [a])(us:List ad)(ee:us.length=1):p us:=by
 cases us with
 |nil=>cases ee
 |cons a us =>
  cases us with
  |nil=>exact h a
  |cons z us=>exact absurd (Nat.succ.inj ee) (Nat.succ_ne_zero _)
theorem us2{p:List ad->Prop}(h:∀a b,p [a,b])(us:List ad)(ee:us.length=2):p us:=by
 cases us with
 |nil=>cases ee
 |cons a us =>
  cases us with
  |nil=>cases ee
  |cons b us =>
   cases us with
   |nil=>exact h a b
   |cons z us=>exact absurd (Nat.succ.inj (Nat.succ.inj ee)) (Nat.succ_ne_zero _)
theorem us3{p:List ad->Prop}(h:∀a b c,p [a,b,c])(us:List ad)(ee:us.length=3):p us:=by
 cases us with
 |nil=>cases ee
 |cons a us =>
  cases us with
  |nil=>cases ee
  |cons b us =>
   cases us with
   |nil=>cases ee
   |cons c us =>
    cases us with
    |nil=>exact h a b c
    |cons z us=>exact absurd (Nat.succ.inj (Nat.succ.inj (Nat.succ.inj ee))) (Nat.succ_ne_zero _)
theorem fsc{N ps:List Str}{sc:Scope}(a:sc.kind=.function:=by rfl)(b:sc.isCoroutine=false:=by rfl)(c:sc.isGenerator=false:=by rfl)(d:N.Nodup:=by decide +kernel)(e:N.take ps.length=ps:=by rfl)(f:∀x∈ps,sc.names.lookup x=some .local\/sc.names.lookup x=some .cell:=by decide +kernel)(g:∀y∈sc.names,y.2≠.free:=by decide +kernel):FnScope N ps sc:=⟨a,b,c,d,e,f,g⟩
end L2
namespace Att
open PySem PySem.Spec PySem.Calls PyProof.Rows PySem.W
theorem attach_callW{l:OpenLaw}{n:Nat}{q:aD}{loose:List Str}{XP:(Str->Option ad)->bj->Prop}{YP:aR->bj->Prop}{d:DefRec}
  (hn:l.most=some n) (hdf:d.params.defaults=[])
  (call:∀ (w:aR) (s₀ s₁:aj) (mg mb:Str->Option ad) (fa:Addr) (o:Obj) (pm cd doc:ad) (a:Addr) (vs:List ad) (ns:List Int),
   Ground q loose [] XP w s₀ mg mb s₁.heap->YP w s₁.heap ->
   s₁.heap.get? fa=some o->o.data=.func (docDef d.name d.params d.body d.scope pm cd doc)->s₁.heap.CodeRec cd d.name->mg d.name=some (.ref fa) ->
   s₁.heap.get? a=some {cls:=.type "list",data:=.seq vs.toArray}->iE vs ns->ns.length<=n->s₁.gens=#[]->(∀x∈ns,x.natAbs<2^1048576) ->
   fu (aF l.prog w) callerA (.call (.ref fa) ⟨[.ref a],[]⟩) (λr s'=>r=.ok (.ret (.bool true))/\OldK s₁.heap s'.heap/\s'.os=s₁.os/\jf s'.gens) s₁) :
  WalkO q loose XP YP l.row.toRowW d [] (λf vs=>PySem.call f vs):=by
 intro w s₀ s₁ mg mb G Y fa o pm cd doc dV kV ho hd L U J hg args vals as i B hrd D hlo;obtain rfl:dV=.none:=Dflts.none U hdf;obtain rfl:kV=.none:=Dflts.noKw U;obtain⟨a,vs,ns,rfl,rfl,j,hints,hlen⟩:=cXn hn i D;have hw:∀x∈ns,x.natAbs<2^1048576:=λx Z=>by
  have h1:=layableW_item (layableW_arg B _ (List.mem_singleton_self _)) _ (List.mem_map_of_mem (f:=WData.int) Z);have h2:=(layableW_iff.mp h1).2.2;have O:x≠0->x.natAbs.log2+1<=2^20:=λh0=>by
   have:(WData.int x).weight=if x==0 then 0 else x.natAbs.log2+1:=by first|rfl|(unfold WData.weight;rfl)
   rw[this,if_neg (by simpa using h0)] at h2
   exact h2
  by_cases h0:x=0
  ·rw[h0];exact Nat.two_pow_pos _
  ·exact(Nat.log2_lt (by omega)).mp (O h0)
 refine enter_call (iD (call w s₀ s₁ mg mb fa o pm cd doc a vs ns G Y ho (fd_plain hd) L J j hints hlen hg hw) λr s' hq=>?_);obtain⟨rfl,h2,O,h4⟩:=hq;exact⟨.inl ⟨.bool true,.bool true,[],rfl,λ_=>rfl,.bool true,cXo l _,λ_=>⟨gS,λ_ hm=>(nomatch hm)⟩⟩,h2,O,h4⟩
end Att
namespace L2
open PySem PySem.Spec PyProof.Rows
def cZb(n:Nat):SpD:=λds S Q=>∃ns:List Int,ds=[.lst (ns.map D.int)]/\ns.length<=n/\(∀x∈ns,x.natAbs<2^1048576)/\(∀a,S a=none)/\∀S',Q (.bl true) S'
theorem eXn{K:Fg}{n:Nat}{H:Hp}{a:Addr}{ns:List Int}(hl:ns.length<=n)(hw:∀x∈ns,x.natAbs<2^1048576)(hS:SqL K H a (ns.map V.int)):spU K (cZb n) [.ref a] H (λv _=>v=.bl true) λ_ _ _=>False:=by
 refine⟨λ_=>False,λ_=>none,[.lst (ns.map D.int)],λd _=>d=.bl true,⟨λa o e=>(by cases e),λ_ (h:False)=>h.elim⟩,RepL.cons ?_ RepL.nil,⟨ns,rfl,hl,hw,λ_=>rfl,λ_=>rfl⟩,λv d H' S' _ _ h e=>by subst e;exact rbl h⟩
 unfold RepV;refine⟨a,_,rfl,?_,fX6⟩;rcases hS with r|z
 ·exact .inl ⟨λz=>z.elim (λw=>w rfl) id,r⟩
 ·exact .inr (.inr z)
theorem walkW{l:PySem.W.OpenLaw}{q:aD}{loose:List Str}{XP:(Str->Option ad)->bj->Prop}{YP:aR->bj->Prop}{d:DefRec}{K:Params->ax}(hn:l.most=some 63)(hdf:d.params.defaults=[])
  (hY:∀(w:aR) (h:bj),YP w h->(K w.params).In h)
  (F:∀ (w:aR) (mg:Str->Option ad) (fa:Addr) (h:bj),(K w.params).In h->h.Ns bq mg->mg d.name=some (.ref fa) ->
   ∃fd:d8,(∀(s:aj) (u:ad),BindsTo s fd ⟨[u],[]⟩ [("script",u)])/\∀base:bj,(K w.params).In base->base.Ns bq mg->FnOk l.prog w (K w.params) mg base CX0 50 fa fd ["script"] (spU (K w.params) (cZb 63))) :
  PySem.W.WalkO q loose XP YP l.row.toRowW d [] (λf vs=>PySem.call f vs):=by
 refine Att.attach_callW hn hdf λw s₀ B mg Z fa o pm cd doc a vs ns G Y ho hd J j i hints hlen D hw=>?_;have KX:=hY w _ Y;obtain⟨fd,L,U⟩:=F w mg fa _ KX G.T.g j;exact dZ4 KX G.T.g G.T.b G.T.builtins G.T.nolimit D i hints (Nat.le_trans hlen (by decide)) ⟨rfl,by decide,by decide⟩ U L (λH hO O=>eXn hlen hw O) λ_ _ _ z=>z
end L2
namespace Toy
open PySem L2
def top(i:Nat):Stmt:=PySem.Challenge.pw_corepetals_k69_next_levels.main.body.getD i (.Pass ⟨0,0,0,0⟩)
end Toy
set_option maxHeartbeats 4000000
namespace L2
open PySem PySem.Spec PyProof.Rows
theorem bJ2{α:Type}(l:List α)(i:Nat):∀m,(aI m).filterMap (λk=>l[i+k]?)=(l.drop i).take m
 |0=>rfl
 |m+1=>by
  rw[gp,gY,bJ2 l i m,bJ]
  congr 1
  rw[iU];simp only[cH,List.filterMap_nil];cases l[i+m]? <;> rfl
theorem fXp(lo hi:Option Int)(n:Nat):b6 lo hi 1 n=(aI (HT.sIx n n hi-HT.sIx n 0 lo)).map λk=>HT.sIx n 0 lo+k:=by
 have e:b6 lo hi 1 n=sliceRange (fk lo hi none n).1 (fk lo hi none n).2.1 1:=rfl;obtain⟨h1,h2,_⟩:=aJn lo hi n;rw[e,h1,h2];unfold sliceRange;have d:(if (1:Int)>0 then (if ((HT.sIx n 0 lo:Nat):Int)<((HT.sIx n n hi:Nat):Int) then (((HT.sIx n n hi:Nat):Int)-((HT.sIx n 0 lo:Nat):Int)+1-1)/1 else 0) else (if ((HT.sIx n 0 lo:Nat):Int)>((HT.sIx n n hi:Nat):Int) then (((HT.sIx n 0 lo:Nat):Int)-((HT.sIx n n hi:Nat):Int)-1-1)/(-1) else 0)).toNat=HT.sIx n n hi-HT.sIx n 0 lo:=by
  rw[if_pos (by decide),Int.ediv_one]
  split <;> lia
 show(aI _).map _=_;rw[d];apply f6;intro k _;lia
theorem cutS_eq(z:Str)(lo hi:Option Int):cutS z lo hi=⟨((z.cps.toList.drop (HT.sIx z.length 0 lo)).take (HT.sIx z.length z.length hi-HT.sIx z.length 0 lo)).toArray⟩:=by
 unfold cutS;rw[fXp,ae,dh];have j:HT.sIx z.length z.length hi<=z.length:=HT.sIx_le _ _ (Nat.le_refl _) hi;have i:z.cps.toList.length=z.length:=be
 by_cases h:(HT.sIx z.length z.length hi-HT.sIx z.length 0 lo==z.length)=true
 ·rw[if_pos h];have h':=g9 h
  by_cases h0:z.length=0
  ·have:z.cps=#[]:=Array.eq_empty_of_size_eq_zero h0
   cases z;simp only at this;subst this;simp
  ·have d:HT.sIx z.length 0 lo=0:=by lia
   rw[h',d,iT,bI (by lia)]
 ·rw[if_neg h,List.filterMap_map]
  congr 1
  have:=bJ2 z.cps.toList (HT.sIx z.length 0 lo) (HT.sIx z.length z.length hi-HT.sIx z.length 0 lo)
  rw[<- this]
  congr 2
  funext k;show z.cps[HT.sIx z.length 0 lo+k]?=_;rw[a7]
end L2
set_option maxHeartbeats 1000000
namespace L2
open PySem
def lettersZ:Str:=aP "abcdefghijklmnopqrstuvwxyz"
theorem bQq{i:Nat}(h:i<26):atI lettersZ.cps.toList (i:Int)=some (97+i):=by
 have:∀j:Fin 26,lettersZ.cps.toList[j.val]?=some (97+j.val):=by decide +kernel
 exact bQ5 (this ⟨i,h⟩)
end L2
set_option maxHeartbeats 4000000
namespace L2
open PySem
theorem aQd{n:Nat}(h:n<=9999):n<=sizeLine:=by rw[bu];lia
theorem bQr{α:Type}:∀(l:List α) (j:Nat) (h:j<l.length),(l[j]::l.eraseIdx j).Perm l
 |a::l,0,_=>.refl _
 |a::l,j+1,h=>by
  have d:=bQr l j (by simpa using h)
  show(l[j]'(by simpa using h)::a::l.eraseIdx j).Perm (a::l)
  exact(iW _ _ _).trans (d.cons a)
theorem dQc{α β:Type}{f:α->β}(g:β->α)(hg:∀x,g (f x)=x){vs us:List β}{xs:List α}(h:(vs++us).Perm (xs.map f)):∃as bs:List α,vs=as.map f/\us=bs.map f/\(as++bs).Perm xs:=by
 have mem:∀y∈vs++us,f (g y)=y:=λy d=>by
  obtain⟨x,_,rfl⟩:=aV.mp (h.mem_iff.mp d);rw[hg]
 have lift:∀l:List β,(∀y∈l,f (g y)=y)->l=(l.map g).map f:=λl hl=>by
  rw[cg];apply hX (by simp)
  intro i h1 h2;rw[hZ];exact(hl _ (dD h1)).symm
 refine⟨vs.map g,us.map g,lift vs λy d=>mem y (b7 _ d),lift us λy d=>mem y (bm _ d),?_⟩;have p:=h.map g;rw[aW,cg] at p;have e:xs.map (g∘f)=xs:=by
  apply hX (by simp)
  intro i h1 h2;rw[hZ];exact hg _
 rwa [e] at p
def dStr':D->Str
 |.str s=>s
 |_=>⟨#[]⟩
end L2
namespace Toy
open PySem L2
end Toy
namespace Toy
variable{α:Type}
def ch:List α->Nat->List (List α)
 |_,0=>[[]]
 |[],_+1=>[]
 |x::xs,n+1=>(ch xs n).map (x::·)++ch xs (n+1)
theorem aZc(xs:List α):ch xs 0=[[]]:=by cases xs <;> rfl
theorem dJr(n:Nat):ch ([]:List α) (n+1)=[]:=rfl
theorem aZ1(x:α)(xs:List α)(n:Nat):ch (x::xs) (n+1)=(ch xs n).map (x::·)++ch xs (n+1):=rfl
theorem dQd:∀(xs:List α) (n:Nat),xs.length<n->ch xs n=[]
 |[],0,h=>by simp at h
 |[],n+1,_=>rfl
 |x::xs,0,h=>by simp at h
 |x::xs,n+1,h=>by
  simp only[aT] at h;rw[aZ1,dQd xs n (by lia),dQd xs (n+1) (by lia)]
  rfl
theorem bJ3:∀(xs:List α) (n:Nat),(ch xs n).length<=2^xs.length
 |[],0=>by simp[ch]
 |[],n+1=>by simp[ch]
 |x::xs,0=>by
  rw[aZc];exact Nat.one_le_two_pow
 |x::xs,n+1=>by
  rw[aZ1,ar,ae,aT,Nat.pow_succ]
  have:=bJ3 xs n
  have:=bJ3 xs (n+1)
  lia
theorem aQo:∀{xs:List α}{n:Nat}{s:List α},s∈ch xs n->s.length=n/\s.Sublist xs
 |[],0,s,h=>by
  have:s=[]:=by simpa [ch] using h
  subst this;exact⟨rfl,.slnil⟩
 |[],n+1,s,h=>by simp[ch] at h
 |x::xs,0,s,h=>by
  have:s=[]:=by simpa [ch] using h
  subst this;exact⟨rfl,jO _⟩
 |x::xs,n+1,s,h=>by
  rw[aZ1,aJ,aV] at h;rcases h with⟨r,d,rfl⟩|h
  ·obtain⟨a,b⟩:=aQo d;exact⟨by simp[a],b.cons_cons x⟩
  ·obtain⟨a,b⟩:=aQo h;exact⟨a,b.cons x⟩
theorem eXo(xs:List α)(i n:Nat)(h:i<xs.length):ch (xs.drop i) (n+1)=(ch (xs.drop (i+1)) n).map (xs[i]::·)++ch (xs.drop (i+1)) (n+1):=by
 rw[da h]
 rfl
theorem aX8:∀{xs:List α}{s:List α},s.Sublist xs->s∈ch xs s.length
 |[],s,h=>by
  have:s=[]:=List.sublist_nil.mp h
  subst this;simp[ch]
 |x::xs,[],h=>by simp[ch]
 |x::xs,y::s,h=>by
  rw[aT,aZ1,aJ,aV];cases h with
  |cons _ h=>right;exact aX8 (s:=y::s) h
  |cons_cons _ h=>left;exact⟨s,aX8 h,rfl⟩
end Toy
namespace Toy
variable{α:Type}
def ext(lt:α->α->Bool)(z:α)(sets:List α)(s:List α):List (List α):=(sets.filter λo=>lt (s.getLastD z) o).map λo=>s++[o]
theorem aZn{z:α}:∀{s:List α},s≠[]->s.getLastD z∈s
 |[],h=>absurd rfl h
 |[x],_=>by simp
 |x::y::s,_=>by
  have:=aZn (z:=z) (s:=y::s) (by simp)
  simp only[i9] at this ⊢;exact am _ this
theorem getLastD_cons'{z x:α}:∀{s:List α},s≠[]->(x::s).getLastD z=s.getLastD z
 |[],h=>absurd rfl h
 |y::s,_=>by simp[i9]
theorem bJ4:∀xs:List α,ch xs 1=xs.map λx=>[x]
 |[]=>rfl
 |x::xs=>by rw[aZ1,aZc,bJ4 xs];rfl
theorem aZo{β:Type}{f g:α->List β}:∀{l:List α},(∀a∈l,f a=g a)->l.flatMap f=l.flatMap g
 |[],_=>rfl
 |a::l,h=>by rw[cU,cU,h a ao,aZo λb d=>h b (am _ d)]
theorem bJ5{lt:α->α->Bool}{z:α}:∀{sets:List α},sets.Pairwise (λa b=>lt a b=true/\lt b a=false)->(∀a,lt a a=false)->∀k,(ch sets (k+1)).flatMap (ext lt z sets)=ch sets (k+2)
 |[],_,_,k=>rfl
 |x::xs,G,irr,k=>by
  obtain⟨B,i⟩:=bb.mp G;have out:∀s:List α,s≠[]->(∀o∈s,o∈xs)->ext lt z (x::xs) s=ext lt z xs s:=λs d hm=>by
   unfold ext;rw[cK,(B _ (hm _ (aZn d))).2]
   rfl
  have tail:(ch xs (k+1)).flatMap (ext lt z (x::xs))=ch xs (k+2):=by
   rw[<- bJ5 i irr k];refine aZo λs d=>?_;obtain⟨h1,h2⟩:=aQo d;exact out s (by rintro rfl;simp at h1) λo D=>h2.subset D
  rw[aZ1,dP,tail,aZ1 (n:=k+1)]
  congr 1
  cases k with
  |zero =>
   rw[aZc,bJ4];simp only[bd,fv,cU,List.flatMap_nil,bD];unfold ext;have e:([x]:List α).getLastD z=x:=rfl;rw[e,cK,irr x];simp only[aS,if_false];rw[iB.mpr λo D=>(B o D).1,cg]
   rfl
  |succ k =>
   rw[<- bJ5 i irr k,ic,List.map_flatMap];refine aZo λs d=>?_;obtain⟨h1,h2⟩:=aQo d;have j:s≠[]:=by rintro rfl;simp at h1
   unfold ext;rw[getLastD_cons' j,cK,(B _ (h2.subset (aZn j))).2];simp only[aS,if_false,cg]
   rfl
def flw(lt:α->α->Bool)(z:α)(ok:List α->Bool)(sets:List α):Nat->List (List α)
 |0=>ch sets 2
 |j+1=>((flw lt z ok sets j).flatMap (ext lt z sets)).filter ok
theorem aZ9{β:Type}{f:α->List β}{q:β->Bool}:∀l:List α,(l.flatMap f).filter q=l.flatMap λa=>(f a).filter q
 |[]=>rfl
 |a::l=>by rw[cU,cU,fx,aZ9 l]
theorem bJ6{lt:α->α->Bool}{z:α}{ok:List α->Bool}{sets:List α}(hp:sets.Pairwise (λa b=>lt a b=true/\lt b a=false))(irr:∀a,lt a a=false)(h2:∀s∈ch sets 2,ok s=true)
  (pre:∀s o,2<=s.length->(s++[o]).Sublist sets->ok (s++[o])=true->ok s=true):∀j,flw lt z ok sets j=(ch sets (j+2)).filter ok
 |0=>(iB.mpr h2).symm
 |j+1=>by
  show((flw lt z ok sets j).flatMap (ext lt z sets)).filter ok=_;rw[bJ6 hp irr h2 pre j,<- bJ5 (z:=z) hp irr (j+1),aZ9,aZ9];have key:∀l:List (List α),(∀s∈l,s∈ch sets (j+2))->(l.filter ok).flatMap (λa=>(ext lt z sets a).filter ok)=l.flatMap λa=>(ext lt z sets a).filter ok:=λl=>by
   induction l with
   |nil=>intro _;rfl
   |cons s l B =>
    intro h;rw[cK,cU];cases hs:ok s with
    |true=>rw[if_pos rfl,cU,B λt d=>h t (am _ d)]
    |false =>
     rw[if_neg (by simp),B λt d=>h t (am _ d)]
     have:(ext lt z sets s).filter ok=[]:=by
      rw[gT];intro t d;unfold ext at d;rw[aV] at d;obtain⟨o,D,rfl⟩:=d;intro G;have i:s++[o]∈ch sets (j+3):=by
       rw[<- bJ5 (z:=z) hp irr (j+1),fh];exact⟨s,h s ao,by unfold ext;rw[aV];exact⟨o,D,rfl⟩⟩
      have:=pre s o (by rw[(aQo (h s ao)).1];lia) (aQo i).2 G
      rw[hs] at this;cases this
     rw[this,bN]
  exact key _ λs hs=>hs
end Toy
namespace Toy
variable{β:Type}[DecidableEq β]
def Sun(s:List (List β)):Prop:=s.Pairwise λa b=>∀n,n∈a->n∈b->∀o∈s,n∈o
def naG(s:List (List β)):List β:=(s.headD []).filter λn=>s.all λo=>decide (n∈o)
def lfG(s:List (List β)):List β:=s.flatMap λo=>o.filter λd=>!decide (d∈naG s)
def coG(s:List (List β)):Option (List β):=if s.length<2\/¬ s.Nodup then none else if (lfG s).Nodup then some (naG s) else none
theorem aJ5{s:List (List β)}(hs:s≠[]){n:β}:n∈naG s↔∀o∈s,n∈o:=by
 unfold naG;rw[az,bB];simp only[decide_eq_true_eq];refine⟨λh=>h.2,λh=>⟨?_,h⟩⟩;cases s with
 |nil=>exact absurd rfl hs
 |cons a s=>exact h a ao
theorem cZc{s:List (List β)}(hs:s≠[])(hn:∀o∈s,o.Nodup):(lfG s).Nodup↔Sun s:=by
 unfold lfG Sun jV;rw[List.pairwise_flatMap];refine⟨λh=>h.2.imp_of_mem ?_,λh=>⟨λo L=>(hn o L).filter _,h.imp_of_mem ?_⟩⟩
 ·intro a b Y U d n na nb;refine aX λO=>?_;have i:n∉naG s:=λz=>O ((aJ5 hs).mp z);exact d n (az.mpr ⟨na,by simp[i]⟩) n (az.mpr ⟨nb,by simp[i]⟩) rfl
 ·intro a b Y U d x J y G e;subst e;obtain⟨D,B⟩:=az.mp J;obtain⟨j,_⟩:=az.mp G
  have:x∉naG s:=by simpa using B
  exact this ((aJ5 hs).mpr (d x D j))
theorem sorted_eq{lt:β->β->Prop}(irr:∀a,¬ lt a a)(asy:∀a b,lt a b->¬ lt b a):∀{l m:List β},l.Pairwise lt->m.Pairwise lt->(∀n,n∈l↔n∈m)->l=m
 |[],[],_,_,_=>rfl
 |[],b::m,_,_,h=>by have:=(h b).mpr ao;simp at this
 |a::l,[],_,_,h=>by have:=(h a).mp ao;simp at this
 |a::l,b::m,hl,hm,h=>by
  obtain⟨la,j⟩:=bb.mp hl;obtain⟨B,i⟩:=bb.mp hm;have e:a=b:=by
   rcases aA.mp ((h a).mp ao) with z|z
   ·exact z
   ·rcases aA.mp ((h b).mpr ao) with y|y
    ·exact y.symm
    ·exact absurd (B a z) (asy _ _ (la b y))
  subst e
  congr 1
  refine sorted_eq irr asy j i λn=>⟨λd=>?_,λd=>?_⟩
  ·rcases aA.mp ((h n).mp (am _ d)) with z|z
   ·subst z;exact absurd (la n d) (irr n)
   ·exact z
  ·rcases aA.mp ((h n).mpr (am _ d)) with z|z
   ·subst z;exact absurd (B n d) (irr n)
   ·exact z
def meG(a b:List β):List β:=a.filter λn=>decide (n∈b)
theorem mem_me{a b:List β}{n:β}:n∈meG a b↔n∈a/\n∈b:=by unfold meG;rw[az];simp
def laG(s:List (List β)):Option (List β):=match s with
 |a::b::_=>if s.Pairwise λother one=>meG one other=meG a b then some (meG a b) else none
 |_=>none
theorem dX4{lt:β->β->Prop}(irr:∀a,¬ lt a a)(asy:∀a b,lt a b->¬ lt b a){s:List (List β)}(h2:2<=s.length)(nd:s.Nodup)(hs:∀o∈s,o.Pairwise lt):laG s=coG s:=by
 classical
 have d:s≠[]:=by rintro rfl;simp at h2
 have hnd:∀o∈s,o.Nodup:=λo Y=>(hs o Y).imp (λ{x y} (h:lt x y) (e:x=y)=>irr y (e▸h));obtain⟨a,b,r,rfl⟩:∃a b r,s=a::b::r:=by
  match s,h2 with
  |a::b::r,_=>exact⟨a,b,r,rfl⟩
 have j:∀x∈a::b::r,∀y,(meG x y).Pairwise lt:=λx L y=>(hs x L).filter _;have hco:coG (a::b::r)=if Sun (a::b::r) then some (naG (a::b::r)) else none:=by
  unfold coG;have Z:¬ ((a::b::r).length<2\/¬ (a::b::r).Nodup):=λz=>z.elim (λz=>by simp only[aT] at z;lia) λz=>z nd
  rw[if_neg Z]
  have:=cZc d hnd
  by_cases h:Sun (a::b::r)
  ·rw[if_pos h,if_pos (this.mpr h)]
  ·rw[if_neg h,if_neg λz=>h (this.mp z)]
 rw[hco];show(if (a::b::r).Pairwise (λother one=>meG one other=meG a b) then some (meG a b) else none)=_
 have J:Sun (a::b::r)->meG a b=naG (a::b::r):=λh=>by
  refine sorted_eq irr asy (j a ao b) ((hs a ao).filter _) λn=>?_;rw[mem_me,aJ5 d];refine⟨λ⟨na,nb⟩=>(bb.mp h).1 b ao n na nb,λz=>⟨z a ao,z b (am _ ao)⟩⟩
 have iff:(a::b::r).Pairwise (λother one=>meG one other=meG a b)↔Sun (a::b::r):=by
  constructor
  ·intro h;refine h.imp_of_mem λ{x y} L U i n nx O o Y=>?_;have hn:n∈meG a b:=i▸mem_me.mpr ⟨O,nx⟩;have all:∀u∈a::b::r,∀v∈a::b::r,u≠v->n∈u/\n∈v:=by
    have sym:∀{l:List (List β)},l.Pairwise (λother one=>meG one other=meG a b)->∀u∈l,∀v∈l,u≠v->n∈u/\n∈v:=by
     intro l hl
     induction hl with
     |nil=>intro u hu;cases hu
     |@cons p l hp _ ih =>
      intro u hu v hv d;rcases aA.mp hu with eu|D <;> rcases aA.mp hv with ev|B
      ·exact absurd (eu.trans ev.symm) d
      ·have:=mem_me.mp ((hp v B).symm▸hn);rw[eu];exact⟨this.2,this.1⟩
      ·have:=mem_me.mp ((hp u D).symm▸hn);rw[ev];exact this
      ·exact ih u D v B d
    exact sym h
   have nab:a≠b:=λe=>(bS.mp nd).1 (e▸ao)
   by_cases G:o=a
   ·rw[G];exact(mem_me.mp hn).1
   ·exact(all o Y a ao G).1
  ·intro h;refine h.imp_of_mem λ{x y} L U i=>?_;refine sorted_eq irr asy (j y U x) (j a ao b) λn=>?_;rw[mem_me,J h,aJ5 d];exact⟨λ⟨O,nx⟩=>i n nx O,λz=>⟨z y U,z x L⟩⟩
 by_cases h:Sun (a::b::r)
 ·rw[if_pos h,if_pos (iff.mpr h),J h]
 ·rw[if_neg h,if_neg λz=>h (iff.mp z)]
end Toy
namespace Toy
variable{α β:Type}
theorem ch_map(f:α->β):∀(l:List α) (k:Nat),ch (l.map f) k=(ch l k).map λs=>s.map f
 |[],0=>rfl
 |[],k+1=>rfl
 |x::l,0=>by rw[aZc,aZc];rfl
 |x::l,k+1=>by
  rw[bd,aZ1,aZ1,ch_map f l k,ch_map f l (k+1),aW,cg,cg]
  rfl
theorem dQe(l:List α)(z:α):(aI l.length).map (λi=>l.getD i z)=l:=by
 apply hX
 ·simp
 ·intro i h1 h2;simp only[hZ,List.getElem_range,ai];rw[ag h2]
  rfl
def bg(row:List Nat):Nat:=if row=[] then 0 else row.getLastD 0+1
def exN(n:Nat)(s:List Nat):List (List Nat):=(b4 (bg s) (n-bg s)).map λo=>s++[o]
theorem aJp(n a:Nat):(aI n).filter (λo=>decide (a<o))=b4 (a+1) (n-(a+1)):=by
 induction n with
 |zero=>simp
 |succ n d =>
  rw[gp,fx,d]
  by_cases h:a<n
  ·simp only[cK,h,decide_true,if_true,List.filter_nil];rw[show n+1-(a+1)=(n-(a+1))+1 by lia,ja]
   congr 2
   lia
  ·simp only[cK,h,decide_false,aS,if_false,List.filter_nil,bD];rw[show n-(a+1)=0 by lia,show n+1-(a+1)=0 by lia]
theorem cZd(n:Nat):(aI n).Pairwise λa b=>decide (a<b)=true/\decide (b<a)=false:=by
 refine(List.pairwise_lt_range (n:=n)).imp λ{a b} h=>⟨decide_eq_true h,decide_eq_false (by lia)⟩
theorem fXq(n k:Nat):ch (aI n) (k+1)=(ch (aI n) k).flatMap (exN n):=by
 cases k with
 |zero =>
  rw[aZc,bJ4];simp only[cU,List.flatMap_nil,bD];unfold exN bg;rw[if_pos rfl,List.range_eq_range']
  rfl
 |succ k =>
  rw[<- bJ5 (lt:=λa b=>decide (a<b)) (z:=0) (cZd n) (λa=>decide_eq_false (Nat.lt_irrefl a)) k];refine aZo λs i=>?_;have d:s≠[]:=by rintro rfl;have:=(aQo i).1;simp at this
  unfold ext exN bg;rw[if_neg d,aJp]
end Toy
set_option maxHeartbeats 1000000
namespace L2
open PySem
abbrev Srt(t:List Str):Prop:=t.Pairwise λa b=>HT.ltS a b=true
abbrev SrtT(ts:List (List Str)):Prop:=ts.Pairwise λa b=>HT.lexS a b=true
theorem Srt.ext{l m:List Str}(hl:Srt l)(hm:Srt m)(h:∀n,n∈l↔n∈m):l=m :=
 Toy.sorted_eq (lt:=λa b=>HT.ltS a b=true) (λa=>by rw[HT.ltS_ir];simp) (λa b h=>by rw[HT.ltS_as h];simp) hl hm h
theorem SrtT.ext{l m:List (List Str)}(hl:SrtT l)(hm:SrtT m)(h:∀n,n∈l↔n∈m):l=m :=
 Toy.sorted_eq (lt:=λa b=>HT.lexS a b=true) (λa=>by rw[bZz];simp) (λa b h=>by rw[HT.lexS_as h];simp) hl hm h
theorem Srt.nodup{t:List Str}(h:Srt t):t.Nodup:=h.imp λ{a b} h e=>by subst e;rw[HT.ltS_ir] at h;cases h
theorem SrtT.nodup{t:List (List Str)}(h:SrtT t):t.Nodup:=h.imp λ{a b} h e=>by subst e;rw[bZz] at h;cases h
theorem fXr{t:List Str}(nd:t.Nodup)(h:t.Pairwise λx y=>leS x y=true):Srt t:=by
 induction t with
 |nil=>exact .nil
 |cons a t i =>
  rw[bb] at h;rw[bS] at nd;refine bb.mpr ⟨λb d=>?_,i nd.2 h.2⟩
  have:=h.1 b d
  unfold leS at this;rw[dr] at this;exact HT.ltS_tot this λe=>nd.1 (by rw[<- e];exact d)
theorem cQ0{l:List Str}(nd:l.Nodup):Srt (srS l):=fXr ((aJ2 l).nodup_iff.mpr nd) (dJm l)
theorem mem_srS{l:List Str}{x:Str}:x∈srS l↔x∈l:=(aJ2 l).mem_iff
theorem bX6{l:List (List Str)}{x:List Str}:x∈srT l↔x∈l:=(aXk l).mem_iff
def dd{α:Type}[DecidableEq α]:List α->List α
 |[]=>[]
 |x::xs=>if x∈xs then dd xs else x::dd xs
theorem mem_dd{α:Type}[DecidableEq α]{x:α}:∀{l:List α},x∈dd l↔x∈l
 |[]=>Iff.rfl
 |y::l=>by
  unfold dd
  split
  ·next h =>
   rw[mem_dd,aA];exact⟨.inr,λz=>z.elim (λe=>by rw[e];exact h) id⟩
  ·rw[aA,aA,mem_dd]
theorem bX7{α:Type}[DecidableEq α]:∀l:List α,(dd l).Nodup
 |[]=>fL
 |y::l=>by
  unfold dd
  split
  ·exact bX7 l
  ·next h=>exact bS.mpr ⟨λz=>h (mem_dd.mp z),bX7 l⟩
def nms(ts:List (List Str)):List Str:=srS (dd ts.flatten)
theorem cQ1(ts:List (List Str)):Srt (nms ts):=cQ0 (bX7 _)
theorem mem_nms{ts:List (List Str)}{x:Str}:x∈nms ts↔∃t∈ts,x∈t:=by
 unfold nms;rw[mem_srS,mem_dd,List.mem_flatten]
theorem dJs{ts:List (List Str)}{out:List Str}(h:Srt out)(m:∀x,x∈out↔∃t∈ts,x∈t):out=nms ts:=h.ext (cQ1 ts) λn=>(m n).trans mem_nms.symm
def mts{α:Type}[DecidableEq α](one row:List α):Bool:=row.any λd=>decide (d∈one)
def has{α:Type}[DecidableEq α](one row:List α):Bool:=row.all λd=>decide (d∈one)
theorem mts_iff{α:Type}[DecidableEq α]{one row:List α}:mts one row=true↔∃x∈row,x∈one:=by unfold mts;simp
theorem has_iff{α:Type}[DecidableEq α]{one row:List α}:has one row=true↔∀x∈row,x∈one:=by unfold has;simp
def wor(ts:List (List Str))(row:List Str):List (List Str):=ts.filter λt=>!mts t row
def wo{α:Type}[DecidableEq α](one row:List α):List α:=one.filter λd=>!decide (d∈row)
theorem mem_wo{α:Type}[DecidableEq α]{one row:List α}{x:α}:x∈wo one row↔x∈one/\x∉row:=by unfold wo;rw[az];simp
def lnk(ts:List (List Str))(row:List Str):List (List Str):=srT ((ts.filter λt=>has t row).map λt=>wo t row)
end L2
set_option maxHeartbeats 4000000
namespace L2
open PySem
structure Enc(α:Type) where
 e:α->D
 inj:∀{x y},e x=e y->x=y
 pl:∀x,plain (e x)=true
 dep:Nat
 ok:∀n x y,dep<=n->okE n (e x) (e y)=true
 lt:α->α->Bool
 okl:∀n x y,dep<=n->okL n (e x) (e y)=true
 lte:∀n x y,dep<=n->ltN n (e x) (e y)=lt x y
def lexG{α:Type}[DecidableEq α](lt:α->α->Bool):List α->List α->Bool
 |[],[]=>false
 |[],_::_=>true
 |_::_,[]=>false
 |x::xs,y::ys=>if x=y then lexG lt xs ys else lt x y
def strE:Enc Str where
 e:=D.str
 inj:=λh=>by injection h
 pl:=λ_=>rfl
 dep:=0
 ok:=λn x y _=>by cases n <;> rfl
 lt:=HT.ltS
 okl:=λn x y _=>by cases n <;> rfl
 lte:=λn x y _=>by cases n <;> rfl
def tupE{α:Type}[DecidableEq α](E:Enc α):Enc (List α) where
 e:=λl=>.tup (l.map E.e)
 inj:=λ{x y} h=>by
  injection h with h
  exact bQp (λa b e=>E.inj e) h
 pl:=λl=>by
  show aZx (l.map E.e)=true
  induction l with
  |nil=>rfl
  |cons x l ih=>show(plain (E.e x)&&aZx (l.map E.e))=true;rw[E.pl,ih];rfl
 dep:=E.dep+1
 ok:=λn x y h=>by
  obtain⟨m,rfl⟩:∃m,n=m+1:=⟨n-1,by lia⟩
  show((x.map E.e).zip (y.map E.e)).all (λp=>okE m p.1 p.2)=true;rw[List.zip_map,iI,bB];exact λp _=>E.ok m p.1 p.2 (by lia)
 lt:=lexG E.lt
 okl:=λn x y h=>by
  obtain⟨m,rfl⟩:∃m,n=m+1:=⟨n-1,by lia⟩
  show okLs (okL m) m (x.map E.e) (y.map E.e)=true
  induction x generalizing y with
  |nil=>cases y <;> rfl
  |cons a x ih =>
   cases y with
   |nil=>rfl
   |cons b y =>
    show(okE m (E.e a) (E.e b)&&(if E.e a=E.e b then okLs (okL m) m (x.map E.e) (y.map E.e) else okL m (E.e a) (E.e b)))=true
    rw[E.ok m a b (by lia),eY]
    split
    ·exact ih y
    ·exact E.okl m a b (by lia)
 lte:=λn x y h=>by
  obtain⟨m,rfl⟩:∃m,n=m+1:=⟨n-1,by lia⟩
  show lexN (ltN m) (x.map E.e) (y.map E.e)=lexG E.lt x y
  induction x generalizing y with
  |nil=>cases y <;> rfl
  |cons a x ih =>
   cases y with
   |nil=>rfl
   |cons b y =>
    show(if E.e a=E.e b then lexN (ltN m) (x.map E.e) (y.map E.e) else ltN m (E.e a) (E.e b))=if a=b then lexG E.lt x y else E.lt a b
    by_cases hab:a=b
    ·subst hab;rw[if_pos rfl,if_pos rfl];exact ih y
    ·rw[if_neg λz=>hab (E.inj z),if_neg hab];exact E.lte m a b (by lia)
abbrev setE:Enc (List Str):=tupE strE
abbrev flE:Enc (List (List Str)):=tupE setE
section
variable{α:Type}[DecidableEq α]{E:Enc α}
theorem cZe:∀l:List α,aZx (l.map E.e)=true
 |[]=>rfl
 |x::l=>by show(plain (E.e x)&&aZx (l.map E.e))=true;rw[E.pl,cZe l];rfl
theorem gQl{x:α}{l:List α}:E.e x∈l.map E.e↔x∈l:=by
 rw[aV];exact⟨λ⟨y,h,e⟩=>by rw[<- E.inj e];exact h,λh=>⟨x,h,rfl⟩⟩
theorem in_e{neg:Bool}{x:α}{l:List α}[dm:Decidable (x∈l)]{d:D}{S:Sto}{Q:DK}(hE:E.dep<=8)(hd:sqIs S d (l.map E.e))(q:Q (.bl (if neg then !decide (x∈l) else decide (x∈l))) S):inD neg (E.e x) d S Q:=by
 refine⟨l.map E.e,hd,cZe l,by rw[iI,bB];exact λy _=>E.ok 8 y x hE,?_⟩
 rw[decide_eq_decide.mpr (gQl (E:=E) (x:=x) (l:=l))];exact q
theorem in_t{neg:Bool}{x:α}{l:List α}[dm:Decidable (x∈l)]{d:D}{S:Sto}{Q:Bool->Sto->Prop}(hE:E.dep<=8)(hd:sqIs S d (l.map E.e))(q:Q (if neg then !decide (x∈l) else decide (x∈l)) S):inD neg (E.e x) d S (λd S1=>∃b,d=.bl b/\Q b S1):=in_e hE hd ⟨_,rfl,q⟩
end
def fzIs(d:D)(xs:List D):Prop:=d=.tup xs\/d=.lst xs
theorem fzIs.sq{S:Sto}{d:D}{xs:List D}(h:fzIs d xs):sqIs S d xs:=by rcases h with rfl|rfl <;> rfl
end L2
namespace Toy
open PySem L2
def aJ6:SpD:=λds S Q=>∃(α:Type) (_:DecidableEq α) (E:Enc α) (one row:List α) (d1 d2:D),ds=[d1,d2]/\E.dep<=4/\fzIs d1 (one.map E.e)/\fzIs d2 (row.map E.e)/\row.length<=9999/\Q (.bl (mts one row)) S
def aX2:SpD:=λds S Q=>∃(α:Type) (_:DecidableEq α) (E:Enc α) (one row:List α) (d1 d2:D),ds=[d1,d2]/\E.dep<=4/\fzIs d1 (one.map E.e)/\fzIs d2 (row.map E.e)/\row.length<=9999/\Q (.bl (has one row)) S
def aQm:SpD:=λds S Q=>∃(α:Type) (_:DecidableEq α) (E:Enc α) (one row:List α) (d1 d2:D),ds=[d1,d2]/\E.dep<=4/\fzIs d1 (one.map E.e)/\fzIs d2 (row.map E.e)/\one.length<=9999/\Q (.tup ((wo one row).map E.e)) S
def aJk:SpD:=λds S Q=>∃one row:List Str,ds=[tupS one,tupS row]/\one.length<=9999/\Q (tupS (one.filter λd=>decide (d∈row))) S
def aX6:SpD:=λds S Q=>∃(ts:List (List Str)),ds=[.tup (ts.map tupS)]/\ts.length<=20/\(∀t∈ts,t.length<=12)/\(nms ts).length<64/\Q (tupS (nms ts)) S
def aQx:SpD:=λds S Q=>∃(ts:List (List Str)) (row:List Str),ds=[.tup (ts.map tupS),tupS row]/\ts.length<=9999/\row.length<=9999/\Q (.tup ((wor ts row).map tupS)) S
end Toy
namespace L2
open PySem
theorem Srt.filter{l:List Str}(h:Srt l)(p:Str->Bool):Srt (l.filter p):=cN p h
def dJt:Str:=aP ""
theorem eXp{α:Type}{xs:List α}(h:xs≠[])(z:α):atI xs (-1)=some (xs.getLastD z):=by
 rw[fJx xs h];cases xs with
 |nil=>exact absurd rfl h
 |cons x xs=>rw[i9,List.getLast_eq_getLastD]
theorem dX5{x:Str}(h:1<=x.length):HT.ltS dJt x=true:=by
 unfold HT.ltS;refine decide_eq_true ?_;obtain⟨⟨l⟩⟩:=x;cases l with
 |nil=>exact absurd h (by decide)
 |cons c l =>
  show([]:List Nat)<c::l;exact List.nil_lt_cons _ _
end L2
namespace Toy
open PySem L2
structure CollB(most:Nat)(ts:List (List Str)):Prop where
 srt:SrtT ts
 each:∀t∈ts,Srt t/\t.length<=6
 len:ts.length<=most
 nms:(nms ts).length<=12
 ne:∀x∈L2.nms ts,HT.ltS dJt x=true
end Toy
namespace L2
open PySem
end L2
set_option maxHeartbeats 1000000
namespace L2
open PySem PySem.Spec PyProof.Rows
end L2
set_option maxHeartbeats 4000000
namespace Toy
open PySem L2
theorem eXq(z:Str)(u v:Option Int){n:Nat}(h:z.length=n):(cutS z u v).length<=n:=by
 rw[cutS_eq];show(List.toArray _).size<=n;rw[aq,aK,bf]
 have:z.cps.toList.length=z.length:=by show _=z.cps.size;simp
 lia
theorem dJu:∀cs:List Nat,((cs.map sg).map (·.length)).sum=cs.length
 |[]=>rfl
 |x::cs=>by rw[bd,bd,eZ,dJu cs,fXh,aT];lia
end Toy
set_option maxHeartbeats 1000000
namespace L2
open PySem PySem.Spec PyProof.Rows
section
variable{X:Cx}{K:Fg}{pos:Pos}
theorem dX6{n k:Nat}(h:n<2^k)(hk:0<k):n.log2<k:=by
 by_cases h0:n=0
 ·subst h0;rw[Nat.log2_zero];exact hk
 ·exact(Nat.log2_lt h0).mpr h
end
section
variable{X:Cx}{K:Fg}{pos:Pos}
def fXs(i j:Int):Prop:=0<=j/\j<=1000/\i.natAbs<2^4000000
theorem eXr:OpR X (eC .LShift) (rI fXs λi j=>.int (i * 2 ^ j.toNat)):=opI λi j _ _ _ _ _ d q=>lshift_int d.1 (by
 have h1:(0:Int)<=j:=d.1;have h2:j<=1000:=d.2.1;have B:=dX6 d.2.2 (by decide)
 have D:kx i<=4000000:=by unfold kx;split <;> omega
 omega) q
theorem fXt{a b:Expr}{ta tb:ED}(ha:PD K X a ta)(hb:PD K X b tb):PD K X (.BinOp a .LShift b pos) (dOp (iiD fXs λi j=>.int (i*2^j.toNat)) ta tb):=e_op eXr od_I ha hb
end
end L2
namespace L2
open PySem
def DkD(S:Sto)(a:Addr)(n:Nat):Prop:=∃g m t:Int,S a=some (.lst [.int g,.int m,.int t])/\0<=g/\0<=m/\m<2^31/\0<=t/\t<=n
theorem DkD.mono{S:Sto}{a:Addr}{n k:Nat}(h:DkD S a n)(hk:n<=k):DkD S a k:=by
 obtain⟨g,m,t,i,j,m0,d,t0,t1⟩:=h;exact⟨g,m,t,i,j,m0,d,t0,by omega⟩
theorem cX4{g c:Int}{k:Nat}(g0:0<=g)(hg:g.natAbs<2^(1048600+206*k))(hc:c.natAbs<2^1048576)(hk:k<=63):0<=g*2^(205:Int).toNat+c.natAbs/\(g*2^(205:Int).toNat+c.natAbs).natAbs<2^(1048600+206*(k+1)):=by
 have e:g*2^(205:Int).toNat+c.natAbs=((g.natAbs*2^205+c.natAbs:Nat):Int):=by
  rw[iy,Int.natCast_mul,Int.natCast_pow,Int.natAbs_of_nonneg g0];rfl
 rw[e];refine⟨Int.natCast_nonneg _,?_⟩;rw[Int.natAbs_natCast];have h1:g.natAbs*2^205<2^(1048600+206*k)*2^205:=Nat.mul_lt_mul_of_pos_right hg (Nat.two_pow_pos _);rw[<- Nat.pow_add] at h1;have h2:2^1048576<=2^(1048600+206*k+205):=Nat.pow_le_pow_right (by decide) (by omega)
 have d:2^(1048600+206*(k+1))=2^(1048600+206*k+205)*2:=by rw[<- Nat.pow_succ];congr 1
 rw[d];generalize 2^(1048600+206*k+205)=M at *
 generalize 2^1048576=N at *
 generalize g.natAbs*2^205=G at *
 omega
def cZf:SpD:=λds S Q=>∃ns:List Int,ds=[.lst (ns.map D.int)]/\ns.length<=63/\(∀x∈ns,x.natAbs<2^1048576)/\∀a S',S a=none->Off a S S'->DkD S' a 0->Q (.ref a) S'
def aXl:SpD:=λds S Q=>∃(a:Addr) (m:Int) (n:Nat),ds=[.ref a,.int m]/\DkD S a n/\n<=1000000/\1<=m/\m<1000000/\∀(r:Int) S',0<=r->r<m->Off a S S'->DkD S' a (n+1)->Q (.int r) S'
def bJ7:SpD:=λds S Q=>∃(a:Addr) (many n:Nat),ds=[.ref a,.int many]/\DkD S a n/\n<=900000/\many<=12/\∀(ws:List Str) S',ws.Nodup->ws.length=many->(∀x∈ws,1<=x.length/\x.length<=8)->Off a S S'->DkD S' a (n+9+many)->Q (.lst (ws.map D.str)) S'
end L2
namespace Toy
open PySem L2
abbrev s_law_deck:Stmt:=top 17
theorem sc_law_deck:FnScope ["script", "great", "mixed", "cell"] ["script"] (aQ5 s_law_deck):=fsc
section
variable{P:aD}{w:aR}{K:ax}{mg:Str->Option ad}{base:bj}{pt cc:Addr}
theorem cQ2(T:Tx K mg "_law_deck" s_law_deck)(B:Bs mg)(AB:mg "abs"=none):Df P w K mg base 1 "_law_deck" ["script"] (spU K cZf):=by
 refine aX1 T sc_law_deck (λF=>F.binds λ_ _ _ _ _ _=>us1 λ_=>rfl) ?_ λf cdv A outer s H E hr=>⟨_,(aQ2 (aQf (i:=1) sc_law_deck.nd rfl (aY rfl) aQ6)
  (aQ2 (aQf (i:=2) sc_law_deck.nd rfl (aY rfl) (aQw (k:=false) (bZt aQ6 (aXn rfl B.len (aQ0 (dv 0) aQ1))) aQ6))
  (aQ2 (aZj cb rfl (aQz (e_sl (b:=false) (dv 0) aXe (aZt aQ6))) (aQq (i:=3) sc_law_deck.nd rfl (aY rfl)) (aQ3 (aXa (gQ3 hr (fXm rfl AB (aQ0 (dv 3) aQ1)) (gQ0 aQ6 aQ6)) (aQ3 (aQf (i:=1) sc_law_deck.nd rfl (aY rfl) (aQw (k:=false) (fXt (dv 1) aQ6) (fXm rfl AB (aQ0 (dv 3) aQ1))))) (aQ3 (aQf (i:=2) sc_law_deck.nd rfl (aY rfl) (aJs (aQw (k:=false) (bZt (dv 2) aQ6) (dv 3)) aQ6))))))
  (aQ3 (aQi (aZr (b:=true) (aQ0 (dv 1) (aQ0 (dv 2) (aQ0 aQ6 aQ1))))))))),?_⟩
 ·rintro ds S Q ⟨ns,rfl,_⟩;rfl
 ·rintro ds S Q ⟨ns,rfl,h63,hw,q⟩;have e:cutD (ns.map D.int) none (some 63)=ns.map D.int:=cQx _ rfl (by show HT.sIx _ _ (some ((63:Nat):Int))=_;rw[HT.sIx_nat];simp;omega)
  have Z:(3:Nat)<=sizeLine:=aQd (by decide)
  refine⟨_,rfl,.inl ⟨by decide,by decide⟩,?_⟩
  refine⟨63,rfl,_,rfl,ns.map D.int,e,aZ0 (λi Γ S'=>S'=S/\∃(g x:Int) (j:Option D),Γ=[some (.lst (ns.map D.int)),some (.int g),some (.int x),j]/\0<=g/\g.natAbs<2^(1048600+206*i)/\0<=x/\x<2^31) ⟨rfl,0,17*((ns.map D.int).length:Int)+11,none,rfl,jn _,Nat.two_pow_pos _,by rw[ae];omega,by rw[ae];omega⟩ ?_ ?_⟩
  ·rintro i y Γ S1 N L ⟨rfl,g,x,j,rfl,d,g1,x0,G⟩ U;rw[aQ,bh] at L;obtain⟨c,O,rfl⟩:=L;obtain⟨hi,_⟩:=ay.mp O;have cw:=hw c (ak O);have Y:(if c<0 then -c else c)=(c.natAbs:Int):=by split <;> omega
   obtain⟨n0,n1⟩:=cX4 (k:=i) d g1 cw (by omega)
   refine⟨trivial,⟨by decide,by decide,by decide⟩,_,rfl,ite2 (λc0=>?_) λc0=>?_⟩
   ·have J:g.natAbs<2^4000000:=Nat.lt_of_lt_of_le g1 (Nat.pow_le_pow_right (by decide) (by omega))
    refine⟨⟨by decide,by decide,J⟩,U _ _ ⟨rfl,_,x,_,rfl,?_,?_,x0,G⟩⟩
    ·show 0<=g*2^(205:Int).toNat+(if c<0 then -c else c)
     rw[Y];exact n0
    ·show(g*2^(205:Int).toNat+(if c<0 then -c else c)).natAbs<_
     rw[Y];exact n1
   ·refine⟨.inl ⟨by omega,by omega⟩,by show(0:Int)<1999999871;decide,U _ _ ⟨rfl,g,_,_,rfl,d,Nat.lt_of_lt_of_le g1 (Nat.pow_le_pow_right (by decide) (by omega)),iw _ (by decide),?_⟩⟩
    exact Int.lt_of_lt_of_le (gx _ (by decide)) (by decide)
  ·rintro Γ S1 ⟨rfl,g,x,j,rfl,d,g1,x0,G⟩;exact⟨trivial,Z,λp hp=>aQj (q p _ hp (λb J=>aQ7 J) ⟨g,x,0,aQa,d,x0,G,jn _,jn _⟩)⟩
end
abbrev s_law_draw:Stmt:=top 18
theorem sc_law_draw:FnScope ["deck", "most", "found", "turn", "one"] ["deck", "most"] (aQ5 s_law_draw):=fsc
section
variable{P:aD}{w:aR}{K:ax}{mg:Str->Option ad}{base:bj}{pt cc:Addr}
theorem cQ3(T:Tx K mg "_law_draw" s_law_draw)(B:Bs mg):Df P w K mg base 1 "_law_draw" ["deck", "most"] (spU K aXl):=by
 refine aX1 T sc_law_draw (λF=>F.binds λ_ _ _ _ _ _=>us2 λ_ _=>rfl) ?_ λf U A outer s H E O=>⟨_,(aQ2 (dJi (aQw (k:=false) (e_ix (dv 0) aQ6) aQ6) (dJh (dv 0) aQ6))
  (aQ2 (aXa (fZq O (e_ix (dv 0) aQ6) aQ6) (aQ2 (aQf (i:=2) sc_law_draw.nd rfl (aY rfl) (aJs (e_ix (dv 0) aQ6) (dv 1)))
  (aQ2 (dJi (dJ8 (e_ix (dv 0) aQ6) (dv 1)) (dJh (dv 0) aQ6))
  (aQ3 (aQi (dv 2))))) aQu)
  (aQ2 (aQf (i:=3) sc_law_draw.nd rfl (aY rfl) (e_ix (dv 0) aQ6))
  (aQ2 (aQf (i:=4) sc_law_draw.nd rfl (aY rfl) (aJs (aQw (k:=false) (aQw (k:=false) (e_ix (dv 0) aQ6) (bZt (bZt aQ6 (dv 3)) (dv 3))) (bZt aQ6 (dv 3))) aQ6))
  (aQ2 (aQf (i:=4) sc_law_draw.nd rfl (aY rfl) (aJs (bZt (dv 4) (dv 4)) aQ6))
  (aQ3 (aQi (aJs (dJ8 (aJs (aQw (k:=false) (bZt (dv 4) aQ6) (bZt (dv 3) aQ6)) aQ6) aQ6) (dv 1))))))))),?_⟩
 ·rintro ds S Q ⟨a,m,n,rfl,_⟩;rfl
 ·rintro ds S Q ⟨a,m,n,rfl,⟨g,x,t,G,J,x0,D,t0,t1⟩,hn,m1,Z,q⟩;have d:supd S a (.lst [.int g,.int x,.int (t+1)]) a=some (.lst [.int g,.int x,.int (t+1)]):=aQa;have md:∀z:Int,0<=z%m/\z%m<m:=λz=>⟨iw _ (by omega),gx _ (by omega)⟩
  have L:∀(z k:Int),0<k->k<2^32->-(2^64)<z%k/\z%k<2^64:=λz k h1 h2=>⟨by have:=iw z (show k≠0 by omega);omega,by have:=gx z h1;omega⟩
  refine⟨_,_,G,rfl,_,_,G,rfl,?_⟩;refine⟨_,_,d,rfl,_,rfl,ite2 (λY=>?_) λY=>?_⟩
  ·refine⟨_,_,d,rfl,by show(0:Int)<m;omega,_,_,d,rfl,⟨by omega,by omega⟩,_,_,d,rfl,aQj (q _ _ (md g).1 (md g).2 (λb j=>by rw[aQ7 j];exact aQ7 j) ⟨g/m,x,t+1,?_,Int.ediv_nonneg J (by omega),x0,D,by omega,by omega⟩)⟩
   exact aQa
  ·refine⟨_,_,d,rfl,_,_,d,rfl,.inl ⟨by decide,by decide⟩,.inr ⟨by omega,by omega⟩,.inl ⟨by decide,by decide⟩,by show(0:Int)<2147483543;decide,.inl (L _ _ (by decide) (by decide)),by show(0:Int)<2147483497;decide,.inr ⟨by decide,by decide⟩,.inr ⟨by decide,by decide⟩,by show(0:Int)<2147483477;decide,⟨by decide,by decide⟩,by show(0:Int)<m;omega,aQj (q _ _ (md _).1 (md _).2 (λb j=>aQ7 j) ⟨g,x,t+1,d,J,x0,D,by omega,by omega⟩)⟩
end
end Toy
namespace L2
open PySem
theorem eXs{u v:Str}{c d:Nat}(h:u++(⟨#[c]⟩:Str)++v=u++(⟨#[d]⟩:Str)++v):c=d:=by
 have e:(u.cps++#[c]++v.cps).toList=(u.cps++#[d]++v.cps).toList:=congrArg (λs:Str=>s.cps.toList) h;rw[bM,bM,bM,bM] at e;have j:=List.append_cancel_right e;have i:=List.append_cancel_left j;exact(List.cons.inj i).1
theorem dQf(u v:Str){cs:List Nat}(nd:cs.Nodup):(cs.map λc=>u++(⟨#[c]⟩:Str)++v).Nodup:=by
 unfold jV;rw[dj];exact kF (λ{a b} d e=>d (eXs e)) nd
theorem dX7(b:Nat):((aI 12).map λk=>97+(b+k)%26).Nodup:=by
 unfold jV;rw[dj];refine bC ?_ (jC (n:=12));intro i j hi B d e
 have:=bo.mp hi
 have:=bo.mp B
 exact d (by omega)
end L2
namespace Toy
open PySem L2
theorem dX8{a:Addr}{ys:List D}{n:Nat}{S:Sto}(dk:DkD S a n)(hn:n+ys.length<=1000000)(h8:ys.length<=8){Q:List D->Sto->Prop}
  (q:∀(cs:List Nat) S',cs.length=ys.length->Off a S S'->DkD S' a (n+ys.length)->Q ((cs.map sg).map D.str) S') :
  aZf (aZe 0) dYes (bQk (dOp ixD (dVar 1) (dCB aXl (bJr (dVar 2) (bJr (dC (.int 26)) dNil))))) (λ_=>True) [none,some (.str lettersZ),some (.ref a)] ys [] S Q:=by
 refine aZ7 (λi acc S'=>∃cs:List Nat,acc=(cs.map sg).map D.str/\cs.length=i/\Off a S S'/\DkD S' a (n+i)) ⟨[],rfl,rfl,λ_ _=>rfl,dk⟩ ?_ ?_
 ·rintro i x acc Sx N Z ⟨cs,rfl,j,Y,G⟩ hN;have hi:=(ay.mp Z).1;refine⟨trivial,a,26,n+i,rfl,G,by lia,by decide,by decide,λJ L U O d B=>?_⟩
  obtain⟨k,rfl⟩:∃k:Nat,J=k:=⟨J.toNat,by lia⟩
  exact⟨aQd (by decide),_,bQq (by lia:k<26),aQd (by rw[ae,ae];lia),hN _ _ ⟨cs++[97+k],by rw[aW,aW];rfl,by rw[ar,j];rfl,Y.trans d,B⟩⟩
 ·rintro acc L ⟨cs,rfl,j,d,B⟩;exact⟨trivial,q cs L j d B⟩
theorem fXu{a lp:Addr}{n:Nat}{S:Sto}{xs:List D}{m:Nat}(hal:a≠lp)(dk:DkD S a n)(hn:n+m<=1000000)(hS:S lp=some (.lst xs))(hm:m<=xs.length)(hx:xs.length<=999){Q:List D->Sto->Prop}
  (q:∀vs us S',(vs++us).Perm xs->vs.length=m->S' lp=some (.lst us)->DkD S' a (n+m)->(∀b,b≠lp->b≠a->S' b=S b)->Q vs S') :
  aZf (aZe 0) dYes (bQk (dMt dQ2 ckL (dVar 1) (bJr (dCB aXl (bJr (dVar 2) (bJr (dCB lenD (bJr (dVar 1) dNil)) dNil))) dNil))) (λ_=>True) [none,some (.ref lp),some (.ref a)] (rngD 0 m) [] S Q:=by
 refine aZ7 (λi acc S'=>∃us:List D,acc.length=i/\S' lp=some (.lst us)/\(acc++us).Perm xs/\DkD S' a (n+i)/\∀b,b≠lp->b≠a->S' b=S b) ⟨xs,rfl,hS,.refl _,dk,λ_ _ _=>rfl⟩ ?_ ?_
 ·rintro i x vs S' N O ⟨us,B,hl,pm,G,d⟩ hN;obtain⟨hi,rfl⟩:=bXx O;have hul:us.length+i=xs.length:=by have:=pm.length_eq;rw[ar] at this;omega
  refine⟨trivial,⟨_,hl⟩,_,hl,a,(us.length:Int),n+i,rfl,G,by omega,by omega,by omega,λr S2 r0 r1 J Z=>?_⟩
  obtain⟨j,rfl⟩:∃j:Nat,r=j:=⟨r.toNat,by omega⟩
  have hj:j<us.length:=by omega
  have U:S2 lp=some (.lst us):=(J lp (cv hal)).trans hl;obtain⟨g,x,t,Y,d1,d2,d3,d4,d5⟩:=Z;refine⟨_,j,us[j],U,rfl,by omega,ag hj,by rw[bu];omega,hN _ _ ⟨us.eraseIdx j,?_,aQa,?_,⟨g,x,t,(aQ7 hal).trans Y,d1,d2,d3,d4,by omega⟩,λb hb L=>(aQ7 hb).trans ((J b L).trans (d b hb L))⟩⟩
  ·rw[ar,B];rfl
  ·refine List.Perm.trans ?_ pm;rw[a6];exact(List.perm_append_left_iff vs).mpr (bQr us j hj)
 ·rintro vs S' ⟨us,B,hl,pm,G,d⟩;rw[aZ6] at B G;exact⟨trivial,q vs us S' pm B hl G d⟩
end Toy
namespace L2
open PySem Toy
def wordsD:List Str:=[aP "a",aP "b",aP "ab",aP "ba",aP "sets",aP "put",aP "take",aP "core",aP "way",aP "row",aP "none",aP "near"]
def made0(b k:Nat):Str:=sg (97+(b+k)%26)++repS (aP "q") (1+(k:Int)%7)
theorem ok0:∀b,b<26->(wordsD++(aI 12).map (made0 b)).Nodup/\∀x∈wordsD++(aI 12).map (made0 b),1<=x.length/\x.length<=8:=by decide +kernel
def dX9(u v:Str)(b k:Nat):Str:=u++sg (97+(b+k)%26)++v
theorem nd1(u v:Str)(b:Nat):((aI 12).map (dX9 u v b)).Nodup:=by
 have e:(aI 12).map (dX9 u v b)=((aI 12).map λk=>97+(b+k)%26).map λc=>u++(⟨#[c]⟩:Str)++v:=by rw[cg];rfl
 rw[e];exact dQf u v (dX7 b)
theorem eXt{z:Str}(hz:z.length=7)(p:Nat)(h:Option Int):(cutS z none (some (p:Int))).length+(cutS z (some (p:Int)) h).length<=7:=by
 have d:z.cps.toList.length=7:=by rw[be];exact hz
 have j:(cutS z none (some (p:Int))).length<=min p 7:=by
  rw[cutS_eq];show(List.toArray _).size<=_;rw[aq,aK,HT.sIx_nat,hz];omega
 have i:(cutS z (some (p:Int)) h).length<=7-min p 7:=by
  rw[cutS_eq];show(List.toArray _).size<=_;rw[aq,aK,bf,HT.sIx_nat,hz,d];omega
 omega
theorem DkD.eq{S S':Sto}{a:Addr}{n:Nat}(h:DkD S a n)(e:S' a=S a):DkD S' a n:=by
 obtain⟨g,m,t,d,r⟩:=h;exact⟨g,m,t,e.trans d,r⟩
theorem DkD.ne{S:Sto}{a p:Addr}{n:Nat}(h:DkD S a n)(hp:S p=none):p≠a:=by
 obtain⟨g,m,t,d,_⟩:=h;rintro rfl;rw[d] at hp;cases hp
def spd_sets:SpD:=λds S Q=>∃(a:Addr) (most wide n:Nat),ds=[.ref a,.int most,.int wide]/\DkD S a n/\n<=800000/\most<=14/\1<=wide/\wide<=12/\∀(ts:List (List Str)) S',CollB most ts->Off a S S'->DkD S' a (n+500)->Q (.tup (ts.map tupS)) S'
end L2
namespace Toy
open PySem L2
theorem cZg{a:Addr}{tt:TD}{Γr:Gm}{ws:List Str}{n:Nat}{S:Sto}(dk:DkD S a n)(hn:n+ws.length<=1000000)(hw:ws.length<=9999)
  (h:∀(x:Str) (S:Sto) (k:Nat),DkD S a k->k<=1000000->∀Q:Bool->Sto->Prop,(∀c S',Off a S S'->DkD S' a (k+1)->Q c S')->tt (some (.str x)::Γr) S Q) {Q:List D->Sto->Prop}
  (q:∀(os:List Str) S',os.Sublist ws->Off a S S'->DkD S' a (n+ws.length)->Q (os.map D.str) S') :
  aZf (aZe 0) tt (bQk (dVar 0)) (λ_=>True) (none::Γr) (ws.map D.str) [] S Q:=by
 refine aZ7 (λi acc S'=>∃os:List Str,acc=os.map D.str/\os.Sublist (ws.take i)/\Off a S S'/\DkD S' a (n+i)) ⟨[],rfl,jO _,λ_ _=>rfl,dk⟩ ?_ ?_
 ·rintro i x acc S' N O ⟨os,rfl,B,J,d⟩ U;rw[aQ,bh] at O;obtain⟨y,L,rfl⟩:=O;obtain⟨hi,_⟩:=ay.mp L;have Y:ws.take (i+1)=ws.take i++[y]:=by rw[bJ,L];rfl
  refine⟨trivial,h y S' (n+i) d (by omega) _ λc Z j G=>?_⟩
  have ol:=B.length_le;rw[aK] at ol;cases c with
  |true =>
   rw[if_pos rfl];refine⟨aQd (by rw[ae];omega),U _ _ ⟨os++[y],by rw[aW];rfl,?_,J.trans j,G⟩⟩
   rw[Y];exact B.append (List.Sublist.refl _)
  |false =>
   rw[if_neg (by simp)]
   refine U _ _ ⟨os,rfl,?_,J.trans j,G⟩;rw[Y];exact B.trans (jx _ _)
 ·rintro acc S' ⟨os,rfl,B,J,d⟩;rw[ae] at B d;rw[bR] at B;exact⟨trivial,q os S' B J d⟩
end Toy
namespace L2
open PySem Toy
theorem gQm{P:Int->Prop}{l:List Int}{i:Int}(h0:0<=i)(h1:i<l.length)(hP:∀x∈l,P x):∃v,atI (l.map D.int) i=some (.int v)/\P v:=by
 obtain⟨h,e⟩:=fXi h0 h1;exact⟨_,by rw[dQ7,e];rfl,hP _ (dD h)⟩
end L2
namespace Toy
open PySem L2
abbrev s_law_names:Stmt:=top 19
theorem sc_law_names:FnScope ["deck", "many", "letters", "spare", "begin", "near", "place", "alike", "k", "sign"] ["deck", "many"] (aQ5 s_law_names):=fsc
section
variable{P:aD}{w:aR}{K:ax}{mg:Str->Option ad}{base:bj}{pt cc:Addr}
theorem bJ8(T:Tx K mg "_law_names" s_law_names)(B:Bs mg)(d_law_draw:Df P w K mg base 1 "_law_draw" ["deck", "most"] (spU K aXl)):Df P w K mg base 2 "_law_names" ["deck", "many"] (spU K bJ7):=by
 refine aX1 T sc_law_names (λF=>F.binds λ_ _ _ _ _ _=>us2 λ_ _=>rfl) ?_ λf cdv A outer s H E hr=>⟨_,(aQ2 (aQf (i:=2) sc_law_names.nd rfl (h9 rfl) aXd)
  (aQ2 (aQf (i:=3) sc_law_names.nd rfl (h9 rfl) (aZr (b:=true) (aQ0 aXd (aQ0 aXd (aQ0 aXd (aQ0 aXd (aQ0 aXd (aQ0 aXd (aQ0 aXd (aQ0 aXd (aQ0 aXd (aQ0 aXd (aQ0 aXd (aQ0 aXd aQ1))))))))))))))
  (aQ2 (aQf (i:=4) sc_law_names.nd rfl (aY rfl) (aQ4 d_law_draw hr rfl (aQ0 (dv 0) (aQ0 aQ6 aQ1))))
  (aQ2 (aQf (i:=5) sc_law_names.nd rfl (aY rfl) (fXa aXd (aQ0 (aZ8 (N':=["k", "letters", "deck"]) (oc:=none) (b:=false) [0] [] rfl sc_law_names.nd (λ_ _ _=>aQe ..) (.own (.cap (i:=2) rfl (by decide +kernel) (.cap (i:=0) rfl (by decide +kernel) .nil))) (aQh rfl) (aZy rfl B.range (aQ0 aQ6 aQ1)) (cg_name (i:=0)) (λ_ _ _ _ _=>aQb (i:=0) (nd_ ["k", "letters", "deck"]) rfl (aY rfl) (.inr rfl)) (λ_ _ _ _ _=>aZb) aQl (λ_ _ _ _ _ _=>aQk rfl (by exact PD.o (e_ix (dv 1) (aQ4 d_law_draw hr rfl (aQ0 (dv 2) (aQ0 aQ6 aQ1))))))) aQ1)))
  (aQ2 (aQf (i:=5) sc_law_names.nd rfl (aY rfl) (aQw (k:=false) (dv 5) (e_ix (dv 2) (dv 4))))
  (aQ2 (aQf (i:=6) sc_law_names.nd rfl (aY rfl) (aQw (k:=false) (aQ4 d_law_draw hr rfl (aQ0 (dv 0) (aQ0 aQ6 aQ1))) (aJs (dv 4) aQ6)))
  (aQ2 (aQf (i:=7) sc_law_names.nd rfl (aY rfl) (aQ4 d_law_draw hr rfl (aQ0 (dv 0) (aQ0 aQ6 aQ1))))
  (aQ2 (aQf (i:=3) sc_law_names.nd rfl (h9 rfl) (e_sl (b:=true) (dv 3) (aZt (bZt aQ6 (dv 7))) aXe))
  (aQ2 (aZj cb rfl (aZy rfl B.range (aQ0 aQ6 aQ1)) (aQq (i:=8) sc_law_names.nd rfl (aY rfl)) (aQ2 (aQf (i:=9) sc_law_names.nd rfl (aY rfl) (e_ix (dv 2) (aJs (aQw (k:=false) (dv 4) (dv 8)) aQ6)))
  (aQ3 (bQj (bZy (dv 3) (aQ0 (e_ix (aZr (b:=false) (aQ0 (aQw (k:=false) (dv 9) (gQk aXd (aQw (k:=false) aQ6 (aJs (dv 8) aQ6)))) (aQ0 (aQw (k:=false) (aQw (k:=false) (e_sl (b:=false) (dv 5) aXe (aZt (dv 6))) (dv 9)) (e_sl (b:=false) (dv 5) (aZt (dv 6)) (aZt (aJs (dv 4) aQ6)))) aQ1))) (dv 7)) aQ1))))))
  (aQ3 (aQi (aZ8 (N':=["k", "spare", "deck"]) (oc:=none) (b:=false) [0] [] rfl sc_law_names.nd (λ_ _ _=>aQe ..) (.own (.cap (i:=3) rfl (by decide +kernel) (.cap (i:=0) rfl (by decide +kernel) .nil))) (aQh rfl) (aZy rfl B.range (aQ0 (dv 1) aQ1)) (cg_name (i:=0)) (λ_ _ _ _ _=>aQb (i:=0) (nd_ ["k", "spare", "deck"]) rfl (aY rfl) (.inr rfl)) (λ_ _ _ _ _=>aZb) aQl (λ_ _ _ _ _ _=>aQk rfl (by exact PD.o (eX3 (dv 1) (aQ0 (aQ4 d_law_draw hr rfl (aQ0 (dv 2) (aQ0 (aXn rfl B.len (aQ0 (dv 1) aQ1)) aQ1))) aQ1)))))))))))))))),?_⟩
 ·rintro ds S Q ⟨a,many,n,rfl,_⟩;rfl
 ·rintro ds S Q ⟨a,many,n,rfl,dk,hn,hm,q⟩;refine⟨aQd (by show 12<=9999;decide),λp1 hp1=>?_⟩
  have L:=dk.ne hp1;refine⟨a,26,n,rfl,dk.eq (aQ7 (cv L)),by omega,by decide,by decide,λb' S1 b0 b1 Z dk1=>?_⟩
  obtain⟨b,rfl⟩:∃b:Nat,b'=b:=⟨b'.toNat,by omega⟩
  refine⟨trivial,⟨by decide,by decide⟩,?_⟩
  refine dX8 dk1 (by rw[aZ6];show n+1+6<=_;omega) (by rw[aZ6];show 6<=8;decide) λbs S2 hbl Y dk2=>?_
  rw[aZ6] at hbl dk2;have hb6:bs.length=6:=hbl;refine⟨bs.map sg,rfl,by rw[dJu,hb6,ae];show 6+_*0<=_;omega,?_⟩
  rw[eX9];generalize hbase:(⟨bs.toArray⟩:Str)=base;have hbl6:base.length=6:=by rw[<- hbase];show bs.toArray.size=6;rw[aq];exact hb6
  refine⟨aQd (by decide),_,bQq (by omega:b<26),aQd (by show base.length+1<=9999;omega),?_⟩
  generalize hnear:base++(⟨#[97+b]⟩:Str)=near;have hn7:near.length=7:=by
   rw[<- hnear];show(base.cps++#[97+b]).size=7;rw[dq];show base.length+1=7;omega
  refine⟨a,7,n+1+6,rfl,dk2,by omega,by decide,by decide,λd S3 p0 p1' U dk3=>⟨by show(0:Int)<2;decide,?_⟩⟩
  obtain⟨pl,hpl⟩:∃pl:Nat,d+(b:Int)%2=pl:=⟨(d+(b:Int)%2).toNat,by omega⟩
  refine⟨a,2,n+1+6+1,rfl,dk3,by omega,by decide,by decide,λal S4 l0 l1 O dk4=>?_⟩
  have hSp:S4 p1=some (.lst (wordsD.map D.str)):=(O p1 L).trans ((U p1 L).trans ((Y p1 L).trans ((Z p1 L).trans aQa)));refine⟨.inl ⟨by decide,by decide⟩,_,rfl,_,hSp,λp2 hp2=>?_⟩
  have h2a:=dk4.ne hp2;obtain⟨ws,mk,J,hnd,hlen,hmk⟩:∃(ws:List Str) (mk:Nat->Str),cutD (wordsD.map D.str) (some (12*al)) none=ws.map D.str/\(ws++(aI 12).map mk).Nodup/\(∀x∈ws++(aI 12).map mk,1<=x.length/\x.length<=8)/\∀k:Nat,atI [D.str ((⟨#[97+(b+k)%26]⟩:Str)++repS (aP "q") (1+(k:Int)%7)),D.str (cutS near none (some (d+(b:Int)%2))++(⟨#[97+(b+k)%26]⟩:Str)++cutS near (some (d+(b:Int)%2)) (some ((b:Int)%8)))] al=some (.str (mk k)):=by
   have h:al=0\/al=1:=by omega
   rw[hpl];rcases h with rfl|rfl
   ·exact⟨wordsD,made0 b,rfl,(ok0 b (by omega)).1,(ok0 b (by omega)).2,λk=>rfl⟩
   ·refine⟨[],dX9 (cutS near none (some (pl:Int))) (cutS near (some (pl:Int)) (some ((b:Int)%8))) b,rfl,nd1 _ _ _,λx hx=>?_,λk=>rfl⟩;obtain⟨k,_,rfl⟩:=aV.mp hx
    have:=eXt hn7 pl (some ((b:Int)%8))
    have e:∀u v:Str,(dX9 u v b k).length=u.length+1+v.length:=λu v=>by
     show(u.cps++#[97+(b+k)%26]++v.cps).size=_;rw[dq,dq];rfl
    rw[e];omega
  rw[J];refine⟨⟨by decide,by decide⟩,aZ0 (λi Γ S'=>(∃x8 x9:Option D,Γ=[some (.ref a),some (.int many),some (.str lettersZ),some (.ref p2),some (.int (b:Nat)),some (.str near),some (.int (d+(b:Int)%2)),some (.int al),x8,x9])/\S' p2=some (.lst ((ws++(aI i).map mk).map D.str))/\∀c,c≠p2->S' c=S4 c) ⟨⟨none,none,rfl⟩,by rw[aQa];simp,λc G=>aQ7 G⟩ ?_ ?_⟩
  ·rintro i x Γ S' N hx ⟨⟨x8,x9,rfl⟩,hf,j⟩ hN;obtain⟨hi,rfl⟩:=bXx hx;have hi12:i<12:=hi;have hlt:atI lettersZ.cps.toList (((b:Int)+(i:Int))%26)=some (97+(b+i)%26):=by
    have e:((b:Int)+(i:Int))%26=(((b+i)%26:Nat):Int):=by omega
    rw[e];exact bQq (by omega)
   have n7:near.length<=1000000:=by omega
   have c7:∀u v:Option Int,(cutS near u v).length<=7:=λu v=>eXq near u v hn7;have r8:(repS (aP "q") (1+(i:Int)%7)).length<=7:=by rw[cZ4 rfl (by omega)];omega
   refine⟨trivial,by show(0:Int)<26;decide,aQd (by decide),_,hlt,⟨_,hf⟩,?_⟩
   refine⟨by show(0:Int)<7;decide,rfl,by omega,by omega,aQd (by show 1+(repS (aP "q") (1+(i:Int)%7)).length<=9999;omega),?_⟩
   refine⟨_,rfl,n7,aQd (by show(cutS near none (some (d+(b:Int)%2))).length+1<=9999;have:=c7 none (some (d+(b:Int)%2));omega),_,rfl,by show(0:Int)<8;decide,_,rfl,n7,?_,aQd (by show 2<=9999;decide),_,_,rfl,hmk i,_,hf,?_,hN _ _ ⟨⟨_,_,rfl⟩,?_,λc G=>(aQ7 G).trans (j c G)⟩⟩
   ·refine aQd ?_;have h1:=c7 none (some (d+(b:Int)%2));have h2:=c7 (some (d+(b:Int)%2)) (some ((b:Int)%8));show((cutS near none (some (d+(b:Int)%2))).cps++#[97+(b+i)%26]).size+(cutS near (some (d+(b:Int)%2)) (some ((b:Int)%8))).length<=9999;rw[dq];show(cutS near none (some (d+(b:Int)%2))).length+1+_<=9999;omega
   ·rw[ae,ar,ae,dh,bu]
    have:ws.length<=12:=by
     have:=congrArg fj J
     rw[ae] at this;rw[<- this];unfold cutD;rw[aK,bf];show _<=12
     have:(wordsD.map D.str).length=12:=rfl
     omega
    omega
   ·rw[aQa,gp];simp
  ·rintro Γ S' ⟨⟨x8,x9,rfl⟩,hf,j⟩;rw[aZ6] at hf;have dk5:DkD S' a (n+9):=(dk4.eq (j a (cv h2a))).mono (by omega)
   have hw12:ws.length<=12:=by
    have:=congrArg fj J
    rw[ae] at this;rw[<- this];unfold cutD;rw[aK,bf]
    have:(wordsD.map D.str).length=12:=rfl
    omega
   refine⟨trivial,⟨by omega,by omega⟩,?_⟩
   rw[cL];refine fXu (m:=many) (cv h2a) dk5 (by omega) hf (by rw[ae,ar,ae,dh];show many<=_+12;omega) (by rw[ae,ar,ae,dh];show _+12<=999;omega) λvs us S9 pm hvl hl9 dk9 off9=>?_
   obtain⟨as,bs',rfl,rfl,pn⟩:=dQc (f:=D.str) dStr' (λ_=>rfl) pm;rw[ae] at hvl;refine bJw (S':=λc=>if c=a then S9 c else S c) (λc o e=>?_) (q as _ (eg.mp (pn.nodup_iff.mpr hnd)).1 hvl (λx hx=>hlen x (pn.mem_iff.mp (b7 _ hx))) (λc G=>if_neg G) (dk9.eq (if_pos rfl)))
   by_cases G:c=a
   ·rw[if_pos G] at e;exact e
   ·rw[if_neg G] at e;have n1:c≠p1:=by rintro rfl;rw[hp1] at e;cases e
    have e4:S4 c=some o:=(O c G).trans ((U c G).trans ((Y c G).trans ((Z c G).trans ((aQ7 n1).trans e))));have n2:c≠p2:=by rintro rfl;rw[hp2] at e4;cases e4
    exact(off9 c n2 G).trans ((j c n2).trans e4)
end
abbrev s_law_sets:Stmt:=top 20
theorem sc_law_sets:FnScope ["deck", "most", "wide", "names", "kind", "core", "parts", "found", "k", "own"] ["deck", "most", "wide"] (aQ5 s_law_sets):=fsc
section
variable{P:aD}{w:aR}{K:ax}{mg:Str->Option ad}{base:bj}{pt cc:Addr}
theorem cQ4(T:Tx K mg "_law_sets" s_law_sets)(B:Bs mg)(d_law_draw:Df P w K mg base 2 "_law_draw" ["deck", "most"] (spU K aXl))(d_law_names:Df P w K mg base 2 "_law_names" ["deck", "many"] (spU K bJ7)):Df P w K mg base 3 "_law_sets" ["deck", "most", "wide"] (spU K spd_sets):=by
 refine aX1 T sc_law_sets (λF=>F.binds λ_ _ _ _ _ _=>us3 λ_ _ _=>rfl) ?_ λf cdv A outer s H E L=>⟨_,(aQ2 (aQf (i:=3) sc_law_sets.nd rfl (aY rfl) (aQ4 d_law_names L rfl (aQ0 (dv 0) (aQ0 (aQw (k:=false) aQ6 (aQ4 d_law_draw L rfl (aQ0 (dv 0) (aQ0 (dv 2) aQ1)))) aQ1))))
  (aQ2 (aQf (i:=4) sc_law_sets.nd rfl (h9 rfl) (aQ4 d_law_draw L rfl (aQ0 (dv 0) (aQ0 aQ6 aQ1))))
  (aQ2 (aJj (i:=5) rfl (aY rfl) (N':=["name", "deck"]) (oc:=none) (b:=false) [0] [] rfl sc_law_sets.nd (λ_ _ _=>aQe ..) (.own (.cap (i:=0) rfl (by decide +kernel) .nil)) (aQh rfl) (aQz (dv 3)) (cg_name (i:=0)) (λ_ _ _ _ _=>aQb (i:=0) (nd_ ["name", "deck"]) rfl (aY rfl) (.inr rfl)) (λ_ _ _ _ _=>aQv (by exact(bZu L (aQ4 d_law_draw L rfl (aQ0 (dv 1) (aQ0 aQ6 aQ1))) aQ6))) aQl (λ_ _ _ _ _ _=>aQk rfl (by exact PD.o (dv 0))))
  (aQ2 (aQf (i:=6) sc_law_sets.nd rfl (h9 rfl) (aQw (k:=false) aQ6 (aQ4 d_law_draw L rfl (aQ0 (dv 0) (aQ0 aQ6 aQ1)))))
  (aQ2 (aQf (i:=7) sc_law_sets.nd rfl (aY rfl) (aZr (b:=true) aQ1))
  (aQ2 (aZj cb rfl (aZy rfl B.range (aQ0 (e_ix (aZr (b:=false) (aQ0 (aQ4 d_law_draw L rfl (aQ0 (dv 0) (aQ0 (aQw (k:=false) (dv 1) aQ6) aQ1))) (aQ0 (dv 1) aQ1))) (dJf rfl B.int (aQ0 (e_eq L (aQ4 d_law_draw L rfl (aQ0 (dv 0) (aQ0 aQ6 aQ1))) aQ6) aQ1))) aQ1)) (aQq (i:=8) sc_law_sets.nd rfl (h9 rfl)) (aQ2 (aJj (i:=9) rfl (aY rfl) (N':=["name", "deck", "kind"]) (oc:=none) (b:=false) [0] [] rfl sc_law_sets.nd (λ_ _ _=>aQe ..) (.own (.cap (i:=0) rfl (by decide +kernel) (.cap (i:=4) rfl (by decide +kernel) .nil))) (aQh rfl) (aQz (dv 3)) (cg_name (i:=0)) (λ_ _ _ _ _=>aQb (i:=0) (nd_ ["name", "deck", "kind"]) rfl (aY rfl) (.inr rfl)) (λ_ _ _ _ _=>aQv (by exact(bZu L (aQ4 d_law_draw L rfl (aQ0 (dv 1) (aQ0 (e_ix (aZr (b:=false) (aQ0 aQ6 (aQ0 aQ6 (aQ0 aQ6 (aQ0 aQ6 (aQ0 aQ6 aQ1)))))) (dv 2)) aQ1))) aQ6))) aQl (λ_ _ _ _ _ _=>aQk rfl (by exact PD.o (dv 0))))
  (bJv (aXa (bZu L (dv 4) aQ6) (aQ3 (aQf (i:=9) sc_law_sets.nd rfl (aY rfl) (aQw (k:=false) (aQw (k:=false) (dv 5) (e_sl (b:=false) (dv 9) aXe (aZt aQ6))) (aZ8 (N':=["at", "name", "parts", "k"]) (oc:=none) (b:=false) [0,1] [] rfl sc_law_sets.nd (λ_ _ _=>aQe ..) (.own (.own (.cap (i:=6) rfl (by decide +kernel) (.cap (i:=8) rfl (by decide +kernel) .nil)))) (aQh rfl) (fX1 rfl B.enumerate (aQ0 (dv 3) aQ1)) (bQl (i:=0) (j:=1)) (λ_ _ _ _ _=>bZ0 rfl (aZ5 (aQb (i:=0) (nd_ ["at", "name", "parts", "k"]) rfl (aY rfl) (.inr rfl)) (aZ5 (aQb (i:=1) (nd_ ["at", "name", "parts", "k"]) rfl (aY rfl) (.inr rfl)) aJb))) (λ_ _ _ _ _=>aQv (by exact(bZu L (aJs (dv 0) (dv 2)) (aJs (dv 3) (dv 2))))) aQl (λ_ _ _ _ _ _=>aQk rfl (by exact PD.o (dv 1))))))) aQu)
  (bJv (aXa (bZu L (dv 4) aQ6) (aQ3 (aQf (i:=9) sc_law_sets.nd rfl (aY rfl) (aZr (b:=false) (aQ0 (e_ix (dv 3) (aQ4 d_law_draw L rfl (aQ0 (dv 0) (aQ0 (aXn rfl B.len (aQ0 (dv 3) aQ1)) aQ1)))) (aQ0 (e_ix (dv 3) (aQ4 d_law_draw L rfl (aQ0 (dv 0) (aQ0 (aXn rfl B.len (aQ0 (dv 3) aQ1)) aQ1)))) aQ1))))) aQu)
  (bJv (aXa (bZu L (dv 4) aQ6) (aQ3 (aQf (i:=9) sc_law_sets.nd rfl (aY rfl) (e_sl (b:=false) (dv 3) aXe (aZt (aQ4 d_law_draw L rfl (aQ0 (dv 0) (aQ0 (aQw (k:=false) (aXn rfl B.len (aQ0 (dv 3) aQ1)) aQ6) aQ1))))))) aQu)
  (aQ3 (bQj (bZy (dv 7) (aQ0 (aZs rfl B.tuple (aQ0 (bX2 (b:=false) L rfl B.sorted (aQ0 (e_sl (b:=false) (bXz (b:=false) L rfl B.sorted rfl B.set (dv 9)) aXe (aZt aQ6)) aQ1)) aQ1)) aQ1)))))))))
  (aQ3 (aQi (aZs rfl B.tuple (aQ0 (bQn (b:=false) L rfl B.sorted rfl B.set (dv 7)) aQ1)))))))))),?_⟩
 ·rintro ds S Q ⟨a,most,wide,n,rfl,_⟩;rfl
 ·rintro ds S Q ⟨a,most,wide,n,rfl,dk,hn,hm,hw1,hw2,q⟩;refine⟨a,wide,n,rfl,dk,by omega,by omega,by omega,λr S1 r0 r1 off1 dk1=>?_⟩
  obtain⟨w,rfl⟩:∃w:Nat,r=w:=⟨r.toNat,by omega⟩
  refine⟨a,1+w,n+1,by rw[iy];rfl,dk1,by omega,by omega,λws S2 nd wl wlen off2 dk2=>?_⟩
  refine⟨a,5,n+1+9+(1+w),rfl,dk2,by omega,by decide,by decide,λkind S3 k0 k1 off3 dk3=>?_⟩
  refine⟨ws.map D.str,rfl,cZg dk3 (by omega) (by omega) (λx S k dk hk Q q=>⟨a,3,k,rfl,dk,hk,by decide,by decide,λr S' _ _ off dk'=>⟨rfl,_,rfl,q _ S' off dk'⟩⟩) λcore S4 hcs off4 dk4=>?_⟩
  refine⟨a,5,n+1+9+(1+w)+1+ws.length,rfl,dk4,by omega,by decide,by decide,λpt S5 p0 p1 off5 dk5=>?_⟩
  refine⟨aQd (by show 0<=9999;decide),λfp hfp=>?_⟩
  have d:=dk5.ne hfp;have hfpS:S fp=none:=(off1 fp d).symm.trans ((off2 fp d).symm.trans ((off3 fp d).symm.trans ((off4 fp d).symm.trans ((off5 fp d).symm.trans hfp))));refine⟨a,(most:Int)+1,n+1+9+(1+w)+1+ws.length+1,rfl,dk5.eq (aQ7 (cv d)),by omega,by omega,by omega,λr6 S6 r60 r61 off6 dk6=>?_⟩
  refine⟨aQd (by show 2<=9999;decide),a,3,n+1+9+(1+w)+1+ws.length+2,rfl,dk6,by omega,by decide,by decide,λr7 S7 r70 r71 off7 dk7=>⟨rfl,?_⟩⟩
  obtain⟨cnt,hv,cm⟩:∃cnt:Nat,atI [D.int r6,.int (most:Nat)] (if (if false=true then !decide (D.int r7=D.int 0) else decide (D.int r7=D.int 0))=true then 1 else 0)=some (.int (cnt:Nat))/\cnt<=most:=by
   obtain⟨c6,rfl⟩:∃c:Nat,r6=c:=⟨r6.toNat,by omega⟩
   have gen:∀b:Bool,∃cnt:Nat,atI [D.int (c6:Nat),.int (most:Nat)] (if b=true then 1 else 0)=some (.int (cnt:Nat))/\cnt<=most:=λb=>by
    cases b with
    |true=>exact⟨most,rfl,Nat.le_refl _⟩
    |false=>exact⟨c6,rfl,by omega⟩
   exact gen _
  refine⟨_,_,rfl,hv,⟨by omega,by omega⟩,?_⟩
  rw[cL];have hf7:S7 fp=some (.lst []):=(off7 fp d).trans ((off6 fp d).trans aQa);have hoff:∀b,b≠a->b≠fp->S7 b=S b:=λb h1 h2=>((((((off7 b h1).trans (off6 b h1)).trans (aQ7 h2)).trans (off5 b h1)).trans (off4 b h1)).trans (off3 b h1)).trans ((off2 b h1).trans (off1 b h1));have wne:1<=ws.length:=by omega
  have w12:ws.length<=12:=by omega
  generalize hN0:n+1+9+(1+w)+1+ws.length+3=N0 at *
  refine aZ0 (λi Γ S'=>∃(x8 x9:Option D) (fs:List (List Str)),Γ=[some (.ref a),some (.int (most:Nat)),some (.int (wide:Nat)),some (.lst (ws.map D.str)),some (.int kind),some (.lst (core.map D.str)),some (.int (2+pt)),some (.ref fp),x8,x9]/\S' fp=some (.lst (fs.map tupS))/\fs.length=i/\(∀t∈fs,Srt t/\t.length<=6/\∀x∈t,x∈ws)/\(∀b,b≠a->b≠fp->S' b=S b)/\DkD S' a (N0+20*i)) ⟨none,none,[],rfl,hf7,rfl,(λ_ h=>by cases h),hoff,dk7.mono (by omega)⟩ ?_ ?_
  ·rintro i x Γ S' N Z ⟨x8,x9,fs,rfl,hf,hfl,hts,hob,dk⟩ hN;obtain⟨hi,rfl⟩:=bXx Z;have hi14:i<cnt:=hi;obtain⟨v,hpv,v1,v2⟩:=gQm (P:=λv=>1<=v/\v<=9) (l:=[2,4,9,9,9]) (i:=kind) k0 (by simpa using k1) (by decide)
   refine⟨trivial,ws.map D.str,rfl,cZg dk (by omega) (by omega) (λx S k dk hk Q q=>⟨aQd (by show 5<=9999;decide),_,_,rfl,hpv,a,v,k,rfl,dk,hk,by omega,by omega,λr S' _ _ off dk'=>⟨rfl,_,rfl,q _ S' off dk'⟩⟩) λown S8 hos off8 dk8=>?_⟩
   have hf8:S8 fp=some (.lst (fs.map tupS)):=(off8 fp d).trans hf;have ho8:∀b,b≠a->b≠fp->S8 b=S b:=λb h1 h2=>(off8 b h1).trans (hob b h1 h2);refine⟨fun Γ S'=>∃own:List Str,Γ=[some (.ref a),some (.int (most:Nat)),some (.int (wide:Nat)),some (.lst (ws.map D.str)),some (.int kind),some (.lst (core.map D.str)),some (.int (2+pt)),some (.ref fp),some (.int (i:Nat)),some (.lst (own.map D.str))]/\(∀x∈own,x∈ws)/\own.length<=40/\S' fp=some (.lst (fs.map tupS))/\(∀b,b≠a->b≠fp->S' b=S b)/\DkD S' a (N0+20*i+ws.length),?_,?_⟩
   ·refine⟨rfl,_,rfl,ite2 (λc=>?_) λc=>⟨own,rfl,λx Z=>hos.subset Z,by have:=hos.length_le;omega,hf8,ho8,dk8⟩⟩
    obtain⟨cs,ec,J,hclen⟩:∃cs:List Str,cutD (own.map D.str) none (some 1)=cs.map D.str/\(∀x∈cs,x∈own)/\cs.length<=own.length:=⟨_,aJ3 _ _ _ _,λx Z=>cM (cz Z),by rw[aK,bf];omega⟩
    have ol:=hos.length_le;have cl:=hcs.length_le;refine⟨1,rfl,_,rfl,?_⟩;rw[ec];refine⟨_,_,rfl,rfl,aQd (by rw[ae,ae];omega),?_⟩
    refine aZ7 (λj acc S'=>S'=S8/\∃os:List Str,acc=os.map D.str/\os.length<=j/\∀x∈os,x∈ws) ⟨rfl,[],rfl,Nat.le_refl _,λ_ h=>by cases h⟩ ?_ ?_
    ·rintro j y acc S' N2 hy ⟨rfl,os,rfl,osl,osm⟩ hN2;obtain⟨z,hz,rfl⟩:=aX0 _ _ _ _ hy;rw[aQ,bh] at hz;obtain⟨x,Z,rfl⟩:=hz;have hj:=(ay.mp Z).1;refine⟨trivial,rfl,rfl,by show(0:Int)<2+pt;omega,by show(0:Int)<2+pt;omega,rfl,_,rfl,ite2 (λc=>⟨aQd (by rw[ae];omega),hN2 _ _ ⟨rfl,os++[x],by rw[aW];rfl,by rw[ar];show os.length+1<=_;omega,λy hy=>?_⟩⟩) λc=>hN2 _ _ ⟨rfl,os,rfl,by omega,osm⟩⟩
     rcases aJ.mp hy with h|h
     ·exact osm y h
     ·rw[aG.mp h];exact ak Z
    ·rintro acc S' ⟨rfl,os,rfl,osl,osm⟩;rw[aZz,ae] at osl;refine⟨trivial,_,_,rfl,rfl,aQd (by rw[ar,ae,ae,ae];omega),core++cs++os,by rw[aW,aW];rfl,λy hy=>?_,by rw[ar,ar];omega,hf8,ho8,dk8⟩
     rcases aJ.mp hy with h|h
     ·rcases aJ.mp h with h|h
      ·exact hcs.subset h
      ·exact hos.subset (J y h)
     ·exact osm y h
   rintro Γ S9 ⟨own,rfl,how,hol,O,U,Y⟩;refine⟨fun Γ S'=>∃own:List Str,Γ=[some (.ref a),some (.int (most:Nat)),some (.int (wide:Nat)),some (.lst (ws.map D.str)),some (.int kind),some (.lst (core.map D.str)),some (.int (2+pt)),some (.ref fp),some (.int (i:Nat)),some (.lst (own.map D.str))]/\(∀x∈own,x∈ws)/\own.length<=40/\S' fp=some (.lst (fs.map tupS))/\(∀b,b≠a->b≠fp->S' b=S b)/\DkD S' a (N0+20*i+ws.length+2),?_,?_⟩
   ·refine⟨rfl,_,rfl,ite2 (λc=>?_) λc=>⟨own,rfl,how,hol,O,U,Y.mono (by omega)⟩⟩
    have pick:∀r:Int,0<=r->r<((ws.map D.str).length:Nat)->∃x∈ws,atI (ws.map D.str) r=some (D.str x):=λr r0 r1=>by
     obtain⟨j,rfl⟩:∃j:Nat,r=j:=⟨r.toNat,by omega⟩
     rw[ae] at r1;have hj:j<ws.length:=by omega
     exact⟨ws[j],dD hj,bQ5 (j:=j) (by rw[aQ,ag hj];rfl)⟩
    refine⟨_,rfl,a,((ws.map D.str).length:Nat),N0+20*i+ws.length,rfl,Y,by omega,by rw[ae];omega,by rw[ae];omega,λr S10 r0 r1 G dk10=>?_⟩
    obtain⟨x1,hx1,e1⟩:=pick r r0 r1;refine⟨_,_,rfl,e1,_,rfl,a,((ws.map D.str).length:Nat),N0+20*i+ws.length+1,rfl,dk10,by omega,by rw[ae];omega,by rw[ae];omega,λr S11 r0 r1 off11 dk11=>?_⟩
    obtain⟨x2,hx2,e2⟩:=pick r r0 r1;refine⟨_,_,rfl,e2,aQd (by show 2<=9999;decide),[x1,x2],rfl,λy hy=>?_,by show 2<=40;decide,(off11 fp d).trans ((G fp d).trans O),λb h1 h2=>(off11 b h1).trans ((G b h1).trans (U b h1 h2)),dk11⟩
    rcases aA.mp hy with rfl|hy
    ·exact hx1
    ·rw[aG.mp hy];exact hx2
   clear own how hol O U Y S9;rintro Γ S9 ⟨own,rfl,how,hol,O,U,Y⟩;refine⟨fun Γ S'=>∃own:List Str,Γ=[some (.ref a),some (.int (most:Nat)),some (.int (wide:Nat)),some (.lst (ws.map D.str)),some (.int kind),some (.lst (core.map D.str)),some (.int (2+pt)),some (.ref fp),some (.int (i:Nat)),some (.lst (own.map D.str))]/\(∀x∈own,x∈ws)/\own.length<=40/\S' fp=some (.lst (fs.map tupS))/\(∀b,b≠a->b≠fp->S' b=S b)/\DkD S' a (N0+20*i+ws.length+3),?_,?_⟩
   ·refine⟨rfl,_,rfl,ite2 (λc=>?_) λc=>⟨own,rfl,how,hol,O,U,Y.mono (by omega)⟩⟩
    refine⟨_,rfl,a,((ws.map D.str).length:Nat)+1,N0+20*i+ws.length+2,rfl,Y,by omega,by omega,by rw[ae];omega,λr S10 r0 r1 G dk10=>?_⟩
    obtain⟨cs,ec,J,hclen⟩:∃cs:List Str,cutD (ws.map D.str) none (some r)=cs.map D.str/\(∀x∈cs,x∈ws)/\cs.length<=ws.length:=⟨_,aJ3 _ _ _ _,λx Z=>cM (cz Z),by rw[aK,bf];omega⟩
    refine⟨r,rfl,_,rfl,?_⟩;rw[ec];exact⟨cs,rfl,J,by omega,(G fp d).trans O,λb h1 h2=>(G b h1).trans (U b h1 h2),dk10⟩
   clear own how hol O U Y S9;rintro Γ S9 ⟨own,rfl,how,hol,O,U,Y⟩;refine⟨⟨_,O⟩,own,rfl,by omega,λout ond omem opw=>?_⟩
   obtain⟨cs,ec,J,hclen,hcnd⟩:∃cs:List Str,cutD (out.map D.str) none (some 6)=cs.map D.str/\(∀x∈cs,x∈out)/\cs.length<=6/\cs.Nodup:=by
    refine⟨_,aJ3 _ _ _ _,λx Z=>cM (cz Z),?_,ond.sublist ((gF _ _).trans (ji _ _))⟩
    have:HT.sIx out.length out.length (some ((6:Nat):Int))=min 6 out.length:=HT.sIx_nat _ _ 6
    rw[aK];show min (HT.sIx out.length out.length (some ((6:Nat):Int))-_) _<=6;omega
   refine⟨6,rfl,_,rfl,?_⟩;rw[ec];refine .inl ⟨cs,rfl,_,rfl,_,O,aQd (by rw[ae];omega),hN _ _ ⟨_,_,fs++[srS cs],rfl,by rw[aQa,aW];rfl,by rw[ar,hfl];rfl,λt ht=>?_,λb h1 h2=>(aQ7 h2).trans (U b h1 h2),(Y.eq (aQ7 (cv d))).mono (by omega)⟩⟩
   rcases aJ.mp ht with h|h
   ·exact hts t h
   ·rw[aG.mp h];exact⟨cQ0 hcnd,by rw[(aJ2 _).length_eq];exact hclen,λx Z=>how x ((omem x).mp (J x (mem_srS.mp Z)))⟩
  ·rintro Γ S' ⟨x8,x9,fs,rfl,hf,hfl,hts,hob,dk⟩;rw[aZ6] at hfl dk;refine⟨trivial,fs,hf,by omega,λout ond omem opw=>⟨_,rfl,?_⟩⟩
   have ol:=ond.length_le_of_subset λt ht=>(omem t).mp ht;have osi:∀t∈out,Srt t/\t.length<=6/\∀x∈t,x∈ws:=λt ht=>hts t ((omem t).mp ht);have onm:∀x∈L2.nms out,x∈ws:=λx Z=>by
    obtain⟨t,ht,hxt⟩:=mem_nms.mp Z;exact(osi t ht).2.2 x hxt
   refine bJw (S':=λc=>if c=a then S' c else S c) (λc o e=>?_) (q out _ {srt:=opw,each:=λt ht=>⟨(osi t ht).1,(osi t ht).2.1⟩,len:=by omega,nms:=Nat.le_trans ((cQ1 _).nodup.length_le_of_subset onm) (by omega),ne:=λx Z=>dX5 (wlen x (onm x Z)).1} (λc hc=>if_neg hc) ((dk.eq (if_pos rfl)).mono (by omega)))
   by_cases z:c=a
   ·rw[if_pos z] at e;exact e
   ·rw[if_neg z] at e;have zf:c≠fp:=by rintro rfl;rw[hfpS] at e;cases e
    rw[hob c z zf];exact e
end
end Toy
set_option maxHeartbeats 4000000
namespace L2
open PySem
theorem cut_from(xs:List D)(i:Nat):cutD xs (some ((i:Int)+1)) none=xs.drop (i+1):=by
 rcases Nat.lt_or_ge i xs.length with h|h
 ·have e:cutD xs (some ((i:Int)+1)) none=cutD (xs.map id) (some (((i+1:Nat):Int))) none:=by rw[List.map_id];rfl
  rw[e,aJ3,HT.sIx_none,HT.sIx_nat,Nat.min_eq_left (by lia),bI (by rw[bf];exact Nat.le_refl _),List.map_id]
 ·have e:cutD xs (some ((i:Int)+1)) none=cutD (xs.map id) (some (((i+1:Nat):Int))) none:=by rw[List.map_id];rfl
  rw[e,aJ3,HT.sIx_none,HT.sIx_nat,bL (by lia),bL (by lia),List.take_nil]
  rfl
end L2
namespace Toy
open PySem L2
def dXa(n:Nat):SpD:=λds S Q=>∃(xs:List D) (m:Nat),ds=[.tup xs,.int m]/\m<n/\xs.length<=20/\Q (.lst ((ch xs m).map D.tup)) S
end Toy
namespace L2
open PySem
open Toy (ch aZ1 aZc aQo aX8 coG naG lfG meG laG Sun dX4 flw bJ6 aJ5 mem_me)
end L2
namespace Toy
open PySem L2
end Toy
set_option maxHeartbeats 1000000
namespace Toy
open PySem L2
abbrev s_choices_of:Stmt:=top 5
theorem sc_choices_of:FnScope ["things", "many", "found", "at", "one"] ["things", "many"] (aQ5 s_choices_of):=fsc
def aJ7:SpD:=dXa 8
section
variable{P:aD}{w:aR}{K:ax}{mg:Str->Option ad}{base:bj}{pt cc:Addr}
theorem eXu{k n:Nat}(T:Tx K mg "choices_of" s_choices_of)(B:Bs mg)(d_choices_of:Df P w K mg base k "choices_of" ["things", "many"] (spU K (dXa n))):Df P w K mg base (k+1) "choices_of" ["things", "many"] (spU K (dXa (n+1))):=by
 refine aX1 T sc_choices_of (λF=>F.binds λ_ _ _ _ _ _=>us2 λ_ _=>rfl) ?_ λf cdv A outer s H E hr=>⟨_,(aQ2 (aXa (bZu hr (dv 1) aQ6) (aQ3 (aQi (aZr (b:=false) (aQ0 (aJ0 aQ1) aQ1)))) aQu)
  (aQ2 (aXa (bQi (eXc aQ6 (dv 1) (aXn rfl B.len (aQ0 (dv 0) aQ1)))) (aQ3 (aQi (aZr (b:=false) aQ1))) aQu)
  (aQ2 (aQf (i:=2) sc_choices_of.nd rfl (aY rfl) (aZr (b:=true) aQ1))
  (aQ2 (aZj cb rfl (dJj rfl B.enumerate (aQ0 (dv 0) aQ1)) (cQy rfl (aZm (aQq (i:=3) sc_choices_of.nd rfl (aY rfl)) (aZm (aQq (i:=4) sc_choices_of.nd rfl (h9 rfl)) bZv))) (aQ3 (bQj (cZ5 (dv 2) (aQ0 (aZ8 (N':=["more", "one"]) (oc:=none) (b:=true) [0] [] rfl sc_choices_of.nd (λ_ _ _=>aQe ..) (.own (.cap (i:=4) rfl (by decide +kernel) .nil)) (aQh rfl) (aQz (aQ4 d_choices_of hr rfl (aQ0 (e_sl (b:=false) (dv 0) (aZt (aQw (k:=false) (dv 3) aQ6)) aXe) (aQ0 (dZp (dv 1) aQ6) aQ1)))) (cg_name (i:=0)) (λ_ _ _ _ _=>aQb (i:=0) (nd_ ["more", "one"]) rfl (aY rfl) (.inr rfl)) (λ_ _ _ _ _=>aZb) aQl (λ_ _ _ _ _ _=>aQk rfl (by exact PD.o (aQw (k:=false) (aJ0 (aQ0 (dv 1) aQ1)) (dv 0))))) aQ1)))))
  (aQ3 (aQi (dv 2))))))),?_⟩
 ·rintro ds S Q ⟨xs,m,rfl,_⟩;rfl
 ·rintro ds S Q ⟨xs,m,rfl,hm,hx,q⟩;refine⟨rfl,_,rfl,ite2 (λc1=>?_) λc1=>?_⟩
  ·have e:m=0:=by
    have:=of_decide_eq_true c1
    injection this with this
    omega
   subst e;rw[aZc] at q;exact⟨aQd (by decide),aQd (by show 1<=9999;decide),aQj q⟩
  have m0:m≠0:=λe=>c1 (decide_eq_true (by rw[e];rfl))
  refine⟨_,rfl,ite2 (λ_=>?_) λc=>absurd (decide_eq_true (by omega)) c⟩
  refine⟨_,rfl,_,rfl,ite2 (λc2=>?_) λc2=>?_⟩
  ·have hb:xs.length<m:=by simp at c2;omega
   rw[dQd xs m hb] at q;exact⟨aQd (by decide),aQj q⟩
  have hb:m<=xs.length:=by simp at c2;omega
  obtain⟨c,rfl⟩:∃c,m=c+1:=⟨m-1,by omega⟩
  refine⟨aQd (by decide),λfp j=>?_⟩
  have Z:∀m,(ch xs m).length<=2^20:=λm=>Nat.le_trans (bJ3 xs m) (Nat.pow_le_pow_right (by decide) hx)
  refine aZ0 (λi Γ S'=>∃(L J:Option D) (acc:List (List D)),Γ=[some (.tup xs),some (.int ((c+1:Nat):Int)),some (.ref fp),L,J]/\S' fp=some (.lst (acc.map D.tup))/\acc++ch (xs.drop i) (c+1)=ch xs (c+1)/\∀b o,S b=some o->S' b=some o)
   ⟨none,none,[],rfl,aQa,rfl,λb o e=>by rw[aQ7 (by rintro rfl;rw[j] at e;cases e)];exact e⟩ ?_ ?_
  ·rintro i x Γ S' N U ⟨L,J,acc,rfl,hf,d,G⟩ hN;obtain⟨y,hy,rfl⟩:=aX0 xs 0 i x U;have hi:i<xs.length:=by
    rcases Nat.lt_or_ge i xs.length with z|z
    ·exact z
    ·rw[bY z] at hy;cases hy
   have O:xs[i]=y:=by rw[ag hi] at hy;exact aN hy
   have hd:=eXo xs i c hi;rw[O] at hd;have hlen:acc.length+(ch (xs.drop (i+1)) c).length<=2^20:=by
    have h1:=congrArg fj d;rw[hd,ar,ar,ae] at h1
    have:=Z (c+1)
    omega
   refine⟨trivial,rfl,rfl,⟨_,hf⟩,_,rfl,xs.drop (i+1),c,?_,by omega,by rw[bf];omega,_,rfl,aJy (enc:=D.tup) (f:=λmore=>D.tup (y::more)) (λmore hm Q q=>?_) ?_ ?_⟩
   ·show [D.tup (cutD xs (some (0+(i:Int)+1)) none),D.int (((c+1:Nat):Int)-1)]=_;rw[j0,cut_from,show((c+1:Nat):Int)-1=(c:Int) by omega]
   ·have h1:=(aQo hm).1;exact⟨aQd (by show 1<=9999;decide),aQd (by show 1+more.length<=9999;omega),q⟩
   ·rw[bu];show 0+(ch (xs.drop (i+1)) c).length<=_;omega
   ·intro p2 hp2;have Y:p2≠fp:=by rintro rfl;rw[hp2] at hf;cases hf
    refine⟨_,_,(aQ7 (cv Y)).trans hf,aQa,?_,hN _ _ ⟨_,_,acc++(ch (xs.drop (i+1)) c).map (y::·),rfl,?_,?_,λb o e=>?_⟩⟩
    ·rw[bN,ae,ae,bu];omega
    ·rw[aQa,aW,cg];rfl
    ·rw[a6,<- hd];exact d
    ·rw[aQ7 (by rintro rfl;rw[j] at e;cases e),aQ7 (by rintro rfl;rw[G _ _ e] at hp2;cases hp2)]
     exact G b o e
  ·rintro Γ S' ⟨L,J,acc,rfl,hf,d,G⟩;rw[aZz,bL (Nat.le_refl _),dJr,bD] at d;refine⟨trivial,dJl (S':=S) hf G j (d▸q)⟩
theorem dJv(T:Tx K mg "choices_of" s_choices_of)(B:Bs mg):∀n:Nat,Df P w K mg base (1+n) "choices_of" ["things", "many"] (spU K (dXa n))
 |0=>T.df (λF=>F.binds λ_ _ _ _ _ _=>us2 λ_ _=>rfl) λF=>F.ok sc_choices_of (λvs H Q E ⟨_,_,_,_,_,_,⟨_,_,_,h,_⟩,_⟩=>absurd h (Nat.not_lt_zero _)) λd A outer s H vs Q j i ⟨_,_,_,_,_,_,⟨_,_,_,h,_⟩,_⟩=>absurd h (Nat.not_lt_zero _)
 |n+1=>eXu T B (dJv T B n)
theorem bX8(T:Tx K mg "choices_of" s_choices_of)(B:Bs mg):Df P w K mg base 9 "choices_of" ["things", "many"] (spU K aJ7):=by
 exact dJv T B 8
end
abbrev s_meet_of:Stmt:=top 3
theorem sc_meet_of:FnScope ["one", "other"] ["one", "other"] (aQ5 s_meet_of):=fsc
section
variable{P:aD}{w:aR}{K:ax}{mg:Str->Option ad}{base:bj}{pt cc:Addr}
theorem cX5(T:Tx K mg "meet_of" s_meet_of)(B:Bs mg):Df P w K mg base 1 "meet_of" ["one", "other"] (spU K aJk):=by
 refine aX1 T sc_meet_of (λF=>F.binds λ_ _ _ _ _ _=>us2 λ_ _=>rfl) ?_ λf G A outer s H E j=>⟨_,(aQ3 (aQi (aZs rfl B.tuple (aQ0 (aZ8 (N':=["name", "other"]) (oc:=none) (b:=false) [0] [] rfl sc_meet_of.nd (λ_ _ _=>aQe ..) (.own (.cap (i:=1) rfl (by decide +kernel) .nil)) (aQh rfl) (aQz (dv 0)) (cg_name (i:=0)) (λ_ _ _ _ _=>aQb (i:=0) (nd_ ["name", "other"]) rfl (aY rfl) (.inr rfl)) (λ_ _ _ _ _=>aQv (by exact(eZp j (dv 0) (dv 1)))) aQl (λ_ _ _ _ _ _=>aQk rfl (by exact PD.o (dv 0)))) aQ1)))),?_⟩
 ·rintro ds S Q ⟨one,row,rfl,_⟩;rfl
 ·rintro ds S Q ⟨one,row,rfl,hl,q⟩;exact⟨one.map D.str,rfl,aQr (p:=λn=>decide (n∈row)) (f:=D.str) (λx d Q q=>in_t (neg:=false) (E:=strE) (by decide) rfl q) (λx d _ Q q=>q) (aQd (by show 0+one.length<=_;omega)) ⟨_,rfl,aQj q⟩⟩
end
end Toy
namespace L2
open PySem
open Toy (ch aZc aZ1 aQo aX8)
section
variable{α:Type}[DecidableEq α]
def eXv(bs:List (List α))(r:List α):Prop:=∀b∈bs,¬ ∀x∈b,x∈r
def frB(bs:List (List α))(r:List α):Bool:=bs.all λb=>!(b.all λx=>decide (x∈r))
structure MfS(ts:List α)(bs:List (List α))(over:Int)(r:List α):Prop where
 sub:r.Sublist ts
 free:eXv bs r
 more:over<r.length
 most:∀r',r'.Sublist ts->eXv bs r'->r'.length<=r.length
 fst:((ch ts r.length).filter (frB bs)).head?=some r
end
end L2
set_option maxHeartbeats 4000000
namespace L2
open PySem Toy
end L2
set_option maxHeartbeats 1000000
namespace L2
open PySem Toy
def hav(ts:List (List Str))(core:List Str):List (List Str):=ts.filter λt=>has t core
def mt2(p:List (List Str)):List Str:=(p.getD 0 []).filter λx=>decide (x∈p.getD 1 [])
def mtg(hs:List (List Str))(core:List Str):List (List (List Str)):=(ch hs 2).filter λp=>!decide (mt2 p=core)
theorem bQ0{hs:List (List Str)}{p:List (List Str)}(h:p∈ch hs 2):∃a b,p=[a,b]/\[a,b].Sublist hs:=by
 obtain⟨h1,h2⟩:=aQo h
 match p,h1 with
 |[a,b],_=>exact⟨a,b,rfl,h2⟩
theorem dQg{a b:List Str}(ha:Srt a)(hb:Srt b):(a.filter λx=>decide (x∈b))=b.filter λx=>decide (x∈a) :=
 Srt.ext (cN _ ha) (cN _ hb) λn=>by simp[and_comm]
theorem dXb{hs r:List (List Str)}{core:List Str}(hs':∀t∈hs,Srt t)(nd:hs.Nodup)(hr:r.Sublist hs):eXv (mtg hs core) r↔r.Pairwise λa b=>(a.filter λx=>decide (x∈b))=core:=by
 constructor
 ·intro h;rw[List.pairwise_iff_forall_sublist];intro a b d;refine aX λz=>?_;refine h [a,b] (az.mpr ⟨aX8 (d.trans hr),?_⟩) λx Z=>d.subset Z
  have:mt2 [a,b]≠core:=z
  simp[this]
 ·intro h p hp B;obtain⟨h1,h2⟩:=az.mp hp;obtain⟨a,b,rfl,d⟩:=bQ0 h1;have D:a≠b:=by
   have:=nd.sublist d
   simp at this;exact this
  have Y:=B a (by simp)
  have U:=B b (by simp)
  have key:(a.filter λx=>decide (x∈b))=core:=by
   obtain⟨i,hi,J⟩:=bn Y;obtain⟨j,O,G⟩:=bn U;have L:=bZ.mp h;rcases Nat.lt_trichotomy i j with z|z|z
   ·have:=L i j hi O z
    rwa [J,G] at this
   ·subst z;exact absurd (J.symm.trans G) D
   ·have:=L j i O hi z
    rw[J,G] at this;rw[dQg (hs' a (hr.subset Y)) (hs' b (hr.subset U))];exact this
  have:mt2 [a,b]=core:=key
  simp[this] at h2
abbrev ltn:Nat->Nat->Bool:=λi j=>decide (i<j)
def natE:Enc Nat where
 e:=λi=>D.int (i:Nat)
 inj:=λh=>by injection h with h;omega
 pl:=λ_=>rfl
 dep:=0
 ok:=λn x y _=>by cases n <;> rfl
 lt:=ltn
 okl:=λn x y _=>by cases n <;> rfl
 lte:=λn x y _=>by
  have:ltN n (D.int (x:Nat)) (D.int (y:Nat))=decide ((x:Int)<(y:Int)):=by cases n <;> rfl
  rw[this];exact decide_eq_decide.mpr (by omega)
end L2
namespace L2
open PySem PySem.Spec PyProof.Rows
end L2
set_option maxHeartbeats 4000000
namespace L2
open PySem
open Toy (ch aZ1 aZc aQo aX8 coG naG lfG meG laG Sun dX4 flw bJ6 aJ5 mem_me)
end L2
namespace L2
open PySem
open Toy (ch aZ1 aZc aQo aX8 coG naG lfG meG laG Sun dX4 flw bJ6 aJ5 mem_me)
theorem me_comm{a b:List Str}(ha:Srt a)(hb:Srt b):meG a b=meG b a:=Srt.ext (cN _ ha) (cN _ hb) λn=>by rw[mem_me,mem_me];exact⟨λh=>⟨h.2,h.1⟩,λh=>⟨h.2,h.1⟩⟩
def Fm(s:List (List Str))(c:List Str):Prop:=s.Pairwise λa b=>meG a b=c
theorem dXc{s:List (List Str)}(h2:2<=s.length)(nd:s.Nodup)(hs:∀o∈s,Srt o){c:List Str}:coG s=some c↔Fm s c:=by
 rw[<- dX4 (lt:=λa b=>HT.ltS a b=true) (λa=>by rw[HT.ltS_ir];simp) (λa b h=>by rw[HT.ltS_as h];simp) h2 nd hs]
 match s,h2,hs with
 |a::b::r,_,hs =>
  have eq:∀d:List Str,((a::b::r).Pairwise λother one=>meG one other=d)↔Fm (a::b::r) d:=λd=>by
   unfold Fm;constructor
   ·intro h;refine bC ?_ h;intro x y j i e;rw[me_comm (hs x j) (hs y i)];exact e
   ·intro h;refine bC ?_ h;intro x y j i e;rw[me_comm (hs y i) (hs x j)];exact e
  have B:∀d,Fm (a::b::r) d->meG a b=d:=λd h=>(bb.mp h).1 b ao;show(if (a::b::r).Pairwise (λother one=>meG one other=meG a b) then some (meG a b) else none)=some c↔_
  constructor
  ·intro h
   split at h
   ·next D=>cases h;exact(eq _).mp D
   ·cases h
  ·intro h
   have:=B c h
   subst this;rw[if_pos ((eq _).mpr h)]
end L2
namespace Toy
open PySem L2
end Toy
namespace L2
open PySem
open Toy (ch aQo aX8 bJ3 meG)
end L2
namespace L2
open PySem
open Toy (ch aQo aX8 coG naG lfG meG aJ5 mem_me)
end L2
namespace L2
open PySem
open Toy (meG mem_me)
end L2
namespace L2
open PySem
open Toy
theorem dXd{P:Prop}[Decidable P](h:P):D.bl (if false=true then !decide P else decide P)=D.bl true:=by rw[decide_eq_true h];rfl
theorem gQn{P:Prop}[Decidable P](h:¬ P):D.bl (if false=true then !decide P else decide P)=D.bl false:=by rw[decide_eq_false h];rfl
theorem fXv{P:Prop}[Decidable P](h:P):D.bl (if true=true then !decide P else decide P)=D.bl false:=by rw[decide_eq_true h];rfl
end L2
namespace L2
open PySem
open Toy
end L2
set_option maxHeartbeats 1000000
namespace L2
open PySem Toy
theorem cZh{α:Type}:∀xs:List α,2*(ch xs 2).length<=xs.length*(xs.length-1)
 |[]=>by simp[dJr]
 |x::xs=>by
  have d:=cZh xs;rw[aZ1,ar,ae,bJ4,ae,aT,Nat.add_sub_cancel];have e:(xs.length+1)*xs.length=xs.length*(xs.length-1)+2*xs.length:=by
   cases xs with
   |nil=>rfl
   |cons y ys=>simp only[aT,Nat.add_sub_cancel];rw[Nat.mul_comm (ys.length+1) ys.length,<- Nat.add_mul]
  lia
def mets(ts:List (List Str)):List (List Str):=(ch ts 2).map mt2
theorem cZi(ts:List (List Str))(h:ts.length<=14):(mets ts).length<=91:=by
 have h1:=cZh ts;have h2:ts.length*(ts.length-1)<=14*13:=Nat.mul_le_mul h (by lia)
 unfold mets;rw[ae];lia
theorem dQh{ts:List (List Str)}{n:Nat}(h:∀t∈ts,t.length<=n){c:List Str}(hc:c∈mets ts):c.length<=n:=by
 obtain⟨p,i,rfl⟩:=aV.mp hc;obtain⟨a,b,rfl,d⟩:=bQ0 i;exact Nat.le_trans (aM _ _) (h a (d.subset (by simp)))
theorem eXw{ts:List (List Str)}(hs:SrtT ts)(he:∀t∈ts,Srt t){core:List Str}(h:core∈mets ts):Srt core/\∀r,MfS (hav ts core) (mtg (hav ts core) core) (-1) r->2<=r.length:=by
 obtain⟨p,G,rfl⟩:=aV.mp h;obtain⟨a,b,rfl,d⟩:=bQ0 G;have L:=he a (d.subset (by simp))
 have O:=he b (d.subset (by simp))
 refine⟨cN _ L,λr D=>?_⟩;have sub:[a,b].Sublist (hav ts (mt2 [a,b])):=by
  have h1:=d.filter λt=>has t (mt2 [a,b]);have e:[a,b].filter (λt=>has t (mt2 [a,b]))=[a,b]:=by
   rw[iB];intro t j;rw[has_iff];intro x B;have i:=az.mp B;rcases aA.mp j with rfl|j
   ·exact i.1
   ·rw[aG.mp j];exact of_decide_eq_true i.2
  rw[e] at h1;exact h1
 have:=D.most [a,b] sub ((dXb (λt j=>he t (az.mp j).1) (hs.nodup.filter _) sub).mpr (by
  refine bb.mpr ⟨λc J=>?_,bP _ _⟩;rw[aG.mp J];rfl))
 exact this
end L2
namespace Toy
open PySem L2
abbrev s_cores_of_two:Stmt:=top 11
theorem sc_cores_of_two:FnScope ["sets"] ["sets"] (aQ5 s_cores_of_two):=fsc
def aXg:SpD:=λds S Q=>∃(ts:List (List Str)),ds=[.tup (ts.map tupS)]/\ts.length<=14/\(∀t∈ts,t.length<=12)/\∀out,SrtT out->(∀t,t∈out↔t∈mets ts)->Q (.lst (out.map tupS)) S
section
variable{P:aD}{w:aR}{K:ax}{mg:Str->Option ad}{base:bj}{pt cc:Addr}
theorem bQs(T:Tx K mg "cores_of_two" s_cores_of_two)(B:Bs mg)(d_choices_of:Df P w K mg base 9 "choices_of" ["things", "many"] (spU K aJ7))(d_meet_of:Df P w K mg base 9 "meet_of" ["one", "other"] (spU K aJk)):Df P w K mg base 10 "cores_of_two" ["sets"] (spU K aXg):=by
 refine aX1 T sc_cores_of_two (λF=>F.binds λ_ _ _ _ _ _=>us1 λ_=>rfl) ?_ λf cdv A outer s H E J=>⟨_,(aQ3 (aQi (dQb (N':=["one", "other"]) (oc:=none) (b:=false) [0,1] [] J rfl B.sorted rfl sc_cores_of_two.nd (λ_ _ _=>bJ0 ..) (.own (.own .nil)) (aQh rfl) (aQz (aQ4 d_choices_of J rfl (aQ0 (dv 0) (aQ0 aQ6 aQ1)))) (bQl (i:=0) (j:=1)) (λ_ _ _ _ _=>bZ0 rfl (aZ5 (aQb (i:=0) (nd_ ["one", "other"]) rfl (aY rfl) (.inr rfl)) (aZ5 (aQb (i:=1) (nd_ ["one", "other"]) rfl (aY rfl) (.inr rfl)) aJb))) (λ_ _ _ _ _=>aZb) dJq (λ_ _ _ _ _ _=>(bX4 (kn:=bJz _ _ _) rfl (lt10 J) rfl rfl rfl (by exact PD.o (aQ4 d_meet_of J rfl (aQ0 (dv 0) (aQ0 (dv 1) aQ1))))))))),?_⟩
 ·rintro ds S Q ⟨G,rfl,_⟩;rfl
 ·rintro ds S Q ⟨G,rfl,Z,he,q⟩;have ml:=cZi G Z;have ml2:(Toy.ch G 2).length<=91:=by rw[mets,ae] at ml;exact ml
  refine⟨G.map tupS,2,rfl,by decide,by rw[ae];omega,(Toy.ch G 2).map (λs=>D.tup (s.map tupS)),(by show _=_;rw[Toy.ch_map,cg];rfl),?_⟩
  refine aZ7 (λi acc S'=>S'=S/\acc=(((Toy.ch G 2).take i).map mt2).map tupS) ⟨rfl,rfl⟩ ?_ ?_
  ·rintro i x acc S' N hx ⟨rfl,rfl⟩ hN;rw[aQ,bh] at hx;obtain⟨p,U,rfl⟩:=hx;obtain⟨a,b,rfl,Y⟩:=bQ0 (ak U);have hi:=(ay.mp U).1;have ha:=he a (Y.subset (by simp))
   refine⟨trivial,rfl,rfl,a,b,rfl,by omega,mt2 [a,b],rfl,?_,hN _ _ ⟨rfl,?_⟩⟩
   ·rw[ae,ae,aK];omega
   ·rw[bJ,U,aW,aW];rfl
  ·rintro acc S' ⟨rfl,rfl⟩;rw[ae,bR];refine⟨trivial,mets G,rfl,λout O d=>⟨?_,λL=>aQj (q out L d)⟩⟩
   have:=O.length_le_of_subset λt ht=>(d t).mp ht
   omega
end
abbrev s_meets:Stmt:=top 2
theorem sc_meets:FnScope ["one", "row"] ["one", "row"] (aQ5 s_meets):=fsc
section
variable{P:aD}{w:aR}{K:ax}{mg:Str->Option ad}{base:bj}{pt cc:Addr}
theorem dXe(T:Tx K mg "meets" s_meets)(B:Bs mg):Df P w K mg base 1 "meets" ["one", "row"] (spU K aJ6):=by
 refine aX1 T sc_meets (λF=>F.binds λ_ _ _ _ _ _=>us2 λ_ _=>rfl) ?_ λf O A outer s H E J=>⟨_,(aQ3 (aQi (gQ9 rfl B.any (aQ0 (aZ8 (N':=["name", "one"]) (oc:=none) (b:=false) [0] [] rfl sc_meets.nd (λ_ _ _=>aQe ..) (.own (.cap (i:=0) rfl (by decide +kernel) .nil)) (aQh rfl) (aQz (dv 1)) (cg_name (i:=0)) (λ_ _ _ _ _=>aQb (i:=0) (nd_ ["name", "one"]) rfl (aY rfl) (.inr rfl)) (λ_ _ _ _ _=>aZb) aQl (λ_ _ _ _ _ _=>aQk rfl (by exact PD.o (e_in J (dv 0) (dv 1))))) aQ1)))),?_⟩
 ·rintro ds S Q ⟨α,dα,E,one,row,j,L,rfl,_⟩;rfl
 ·rintro ds S Q ⟨α,dα,E,one,row,j,L,rfl,U,h1,h2,hl,q⟩;have go:∀Q':List D->Sto->Prop,Q' (row.map λd=>D.bl (decide (d∈one))) S->aZf (aZe 0) dYes (bQk (dOp (inD false) (dVar 0) (dVar 1))) (λ_=>True) [none,some j] (row.map E.e) [] S Q':=λQ' G =>
   aJy (f:=λd=>D.bl (decide (d∈one))) (λd hd Q q=>in_e (neg:=false) (E:=E) (by omega) h1.sq q) (aQd (by show 0+row.length<=_;omega)) G
  have e:(row.map λd=>decide (d∈one)).any id=mts one row:=by unfold mts;rw[List.any_map];rfl
  rw[<- e] at q;rcases h2 with rfl|rfl
  ·exact⟨row.map E.e,rfl,go _ ⟨row.map λd=>decide (d∈one),by show _=_;rw[cg];rfl,aQj q⟩⟩
  ·exact⟨row.map E.e,rfl,go _ ⟨row.map λd=>decide (d∈one),by show _=_;rw[cg];rfl,aQj q⟩⟩
end
abbrev s_has_all:Stmt:=top 1
theorem sc_has_all:FnScope ["one", "row"] ["one", "row"] (aQ5 s_has_all):=fsc
section
variable{P:aD}{w:aR}{K:ax}{mg:Str->Option ad}{base:bj}{pt cc:Addr}
theorem cX6(T:Tx K mg "has_all" s_has_all)(B:Bs mg):Df P w K mg base 1 "has_all" ["one", "row"] (spU K aX2):=by
 refine aX1 T sc_has_all (λF=>F.binds λ_ _ _ _ _ _=>us2 λ_ _=>rfl) ?_ λf O A outer s H E J=>⟨_,(aQ3 (aQi (gQ8 rfl B.all (aQ0 (aZ8 (N':=["name", "one"]) (oc:=none) (b:=false) [0] [] rfl sc_has_all.nd (λ_ _ _=>aQe ..) (.own (.cap (i:=0) rfl (by decide +kernel) .nil)) (aQh rfl) (aQz (dv 1)) (cg_name (i:=0)) (λ_ _ _ _ _=>aQb (i:=0) (nd_ ["name", "one"]) rfl (aY rfl) (.inr rfl)) (λ_ _ _ _ _=>aZb) aQl (λ_ _ _ _ _ _=>aQk rfl (by exact PD.o (e_in J (dv 0) (dv 1))))) aQ1)))),?_⟩
 ·rintro ds S Q ⟨α,dα,E,one,row,j,L,rfl,_⟩;rfl
 ·rintro ds S Q ⟨α,dα,E,one,row,j,L,rfl,U,h1,h2,hl,q⟩;have go:∀Q':List D->Sto->Prop,Q' (row.map λd=>D.bl (decide (d∈one))) S->aZf (aZe 0) dYes (bQk (dOp (inD false) (dVar 0) (dVar 1))) (λ_=>True) [none,some j] (row.map E.e) [] S Q':=λQ' G =>
   aJy (f:=λd=>D.bl (decide (d∈one))) (λd hd Q q=>in_e (neg:=false) (E:=E) (by omega) h1.sq q) (aQd (by show 0+row.length<=_;omega)) G
  have e:(row.map λd=>decide (d∈one)).all id=has one row:=by unfold has;rw[iI];rfl
  rw[<- e] at q;rcases h2 with rfl|rfl
  ·exact⟨row.map E.e,rfl,go _ ⟨row.map λd=>decide (d∈one),by show _=_;rw[cg];rfl,aQj q⟩⟩
  ·exact⟨row.map E.e,rfl,go _ ⟨row.map λd=>decide (d∈one),by show _=_;rw[cg];rfl,aQj q⟩⟩
end
abbrev s_names_of:Stmt:=top 7
theorem sc_names_of:FnScope ["sets"] ["sets"] (aQ5 s_names_of):=fsc
section
variable{P:aD}{w:aR}{K:ax}{mg:Str->Option ad}{base:bj}{pt cc:Addr}
theorem cQ5(T:Tx K mg "names_of" s_names_of)(B:Bs mg):Df P w K mg base 1 "names_of" ["sets"] (spU K aX6):=by
 refine aX1 T sc_names_of (λF=>F.binds λ_ _ _ _ _ _=>us1 λ_=>rfl) ?_ λf cdv A outer s H E Z=>⟨_,(aQ3 (aQi (aZs rfl B.tuple (aQ0 (eXl (N':=["one", "name"]) (oc:=none) (b:=false) [0,1] [1] Z rfl B.sorted rfl sc_names_of.nd (λ_ _ _=>cX1 _ _ _ _ _ _ _ _ _ _ _ _) (.own (.own .nil)) (aQh rfl) (aQz (dv 0)) (cg_name (i:=0)) (λ_ _ _ _ _=>aQb (i:=0) (nd_ ["one", "name"]) rfl (aY rfl) (.inr rfl)) (λ_ _ _ _ _=>aZb) (dQa (cg_name (i:=1)) fXo) (λ_ _ _ _ _ _=>dZ6 (m:=λacc=>emitOfS _ acc _) rfl rfl rfl (λ_=>cX2 _ _ _ _ _ _ _ _ _ _ _ _) (by exact PID.o (aQz (dv 0))) (aQb (i:=1) (nd_ ["one", "name"]) rfl (aY rfl) (.inr rfl)) (aZb) (bX4 (kn:=cX3 _ _ _) rfl (lt10 Z) rfl rfl rfl (by exact PD.o (dv 1))) (λ_=>rfl) (λ_=>rfl) (λ_=>rfl) (λ_=>rfl) (λ_=>rfl))) aQ1)))),?_⟩
 ·rintro ds S Q ⟨ts,rfl,_⟩;rfl
 ·rintro ds S Q ⟨ts,rfl,hl,Y,h64,q⟩;have bound:∀l:List (List Str),(∀t∈l,t.length<=12)->l.flatten.length<=12*l.length:=by
   intro l
   induction l with
   |nil=>intro _;exact Nat.le_refl _
   |cons t l ih =>
    intro h;have h1:=h t ao;have h2:=ih λt G=>h t (am _ G);rw[jm,ar,aT];omega
  refine⟨ts.map tupS,rfl,aZ7 (λi acc S'=>S'=S/\acc=((ts.take i).flatten).map D.str) ⟨rfl,rfl⟩ ?_ ?_⟩
  ·rintro i x acc S' N U ⟨rfl,rfl⟩ hN;rw[aQ,bh] at U;obtain⟨t,G,rfl⟩:=U;refine⟨trivial,t.map D.str,rfl,aZ7 (λj acc L=>L=S'/\acc=((ts.take i).flatten++t.take j).map D.str) ⟨rfl,by rw[km,bD]⟩ ?_ ?_⟩
   ·rintro j y acc L N2 O ⟨rfl,rfl⟩ J;rw[aQ,bh] at O;obtain⟨n,hn,rfl⟩:=O;refine⟨trivial,n,rfl,?_,J _ _ ⟨rfl,?_⟩⟩
    ·have b1:=bound (ts.take i) λt G=>Y t (cz G);have b2:=Y t (ak G);have hi:i<ts.length:=(ay.mp G).1;rw[aK] at b1;rw[ae,ar,aK];omega
    ·rw[bJ,hn];simp
   ·rintro acc L ⟨rfl,rfl⟩;rw[ae,bR];refine⟨trivial,hN _ _ ⟨rfl,?_⟩⟩;rw[bJ,G,fb];simp
  ·rintro acc S' ⟨rfl,rfl⟩;rw[ae,bR];refine⟨trivial,ts.flatten,rfl,λout nd mem=>?_⟩;have d:∀x,x∈out↔∃t∈ts,x∈t:=λx=>(mem x).trans List.mem_flatten;refine⟨?_,λpw=>?_⟩
   ·have:out.length=(nms ts).length:=by
     rw[<- (aJ2 out).length_eq,dJs (cQ0 nd) λx=>mem_srS.trans (d x)]
    omega
   ·rw[dJs pw d];exact⟨_,rfl,aQj q⟩
end
abbrev s_without_names:Stmt:=top 4
theorem sc_without_names:FnScope ["one", "row"] ["one", "row"] (aQ5 s_without_names):=fsc
section
variable{P:aD}{w:aR}{K:ax}{mg:Str->Option ad}{base:bj}{pt cc:Addr}
theorem aJu(T:Tx K mg "without_names" s_without_names)(B:Bs mg):Df P w K mg base 1 "without_names" ["one", "row"] (spU K aQm):=by
 refine aX1 T sc_without_names (λF=>F.binds λ_ _ _ _ _ _=>us2 λ_ _=>rfl) ?_ λf U A outer s H E L=>⟨_,(aQ3 (aQi (aZs rfl B.tuple (aQ0 (aZ8 (N':=["name", "row"]) (oc:=none) (b:=false) [0] [] rfl sc_without_names.nd (λ_ _ _=>aQe ..) (.own (.cap (i:=1) rfl (by decide +kernel) .nil)) (aQh rfl) (aQz (dv 0)) (cg_name (i:=0)) (λ_ _ _ _ _=>aQb (i:=0) (nd_ ["name", "row"]) rfl (aY rfl) (.inr rfl)) (λ_ _ _ _ _=>aQv (by exact(cJj L (dv 0) (dv 1)))) aQl (λ_ _ _ _ _ _=>aQk rfl (by exact PD.o (dv 0)))) aQ1)))),?_⟩
 ·rintro ds S Q ⟨α,dα,E,one,row,O,j,rfl,_⟩;rfl
 ·rintro ds S Q ⟨α,dα,E,one,row,O,j,rfl,Y,h1,h2,hl,q⟩;have go:∀Q':List D->Sto->Prop,Q' ((wo one row).map E.e) S->aZf (aZe 0) (aXy (dOp (inD true) (dVar 0) (dVar 1))) (bQk (dVar 0)) (λ_=>True) [none,some j] (one.map E.e) [] S Q':=λQ' G =>
   aQr (p:=λn=>!decide (n∈row)) (f:=E.e) (λx J Q q=>in_t (neg:=true) (E:=E) (by omega) h2.sq q) (λx J _ Q q=>q) (aQd (by show 0+one.length<=_;omega)) G
  rcases h1 with rfl|rfl
  ·exact⟨one.map E.e,rfl,go _ ⟨_,rfl,aQj q⟩⟩
  ·exact⟨one.map E.e,rfl,go _ ⟨_,rfl,aQj q⟩⟩
end
abbrev s_without_row:Stmt:=top 9
theorem sc_without_row:FnScope ["sets", "row"] ["sets", "row"] (aQ5 s_without_row):=fsc
section
variable{P:aD}{w:aR}{K:ax}{mg:Str->Option ad}{base:bj}{pt cc:Addr}
theorem bQy(T:Tx K mg "without_row" s_without_row)(B:Bs mg)(d_meets:Df P w K mg base 1 "meets" ["one", "row"] (spU K aJ6)):Df P w K mg base 2 "without_row" ["sets", "row"] (spU K aQx):=by
 refine aX1 T sc_without_row (λF=>F.binds λ_ _ _ _ _ _=>us2 λ_ _=>rfl) ?_ λf D A outer s H E j=>⟨_,(aQ3 (aQi (aZs rfl B.tuple (aQ0 (aZ8 (N':=["one", "row"]) (oc:=none) (b:=false) [0] [] rfl sc_without_row.nd (λ_ _ _=>aQe ..) (.own (.cap (i:=1) rfl (by decide +kernel) .nil)) (aQh rfl) (aQz (dv 0)) (cg_name (i:=0)) (λ_ _ _ _ _=>aQb (i:=0) (nd_ ["one", "row"]) rfl (aY rfl) (.inr rfl)) (λ_ _ _ _ _=>aQv (by exact(bQi (aZl (aQ4 d_meets j rfl (aQ0 (dv 0) (aQ0 (dv 1) aQ1))))))) aQl (λ_ _ _ _ _ _=>aQk rfl (by exact PD.o (dv 0)))) aQ1)))),?_⟩
 ·rintro ds S Q ⟨d,row,rfl,_⟩;rfl
 ·rintro ds S Q ⟨d,row,rfl,hl,j,q⟩;refine⟨d.map tupS,rfl,aQr (p:=λt=>!mts t row) (f:=tupS) (λt J Q q=>?_) (λx G _ Q q=>q) (aQd (by show 0+d.length<=_;omega)) ⟨_,rfl,aQj q⟩⟩
  exact⟨Str,inferInstance,strE,t,row,tupS t,tupS row,rfl,by decide,.inl rfl,.inl rfl,j,q⟩
end
end Toy
set_option maxHeartbeats 4000000
namespace L2
open PySem Toy
end L2
set_option maxHeartbeats 1000000
namespace L2
open PySem Toy
end L2
set_option maxHeartbeats 4000000
namespace L2
open PySem Toy
section
variable{α:Type}[DecidableEq α](ok:List α->Bool)
variable{ok}
variable{lt:α->α->Bool}
variable(ok lt) in
end
end L2
namespace Toy
open PySem L2
end Toy
namespace L2
open PySem Toy
end L2
set_option maxHeartbeats 1000000
namespace L2
open PySem Toy
theorem eXx{a b:List Str}(ha:Srt a)(hb:Srt b):meG a b=meG b a:=Srt.ext (cN _ ha) (cN _ hb) λx=>by rw[mem_me,mem_me];exact And.comm
theorem cZj{α:Type}{l:List α}{R:α->α->Prop}(sy:∀a∈l,∀b∈l,R a b->R b a)(h:l.Pairwise R):∀a∈l,∀b∈l,a≠b->R a b:=λa D b B ne=>by
 obtain⟨i,hi,rfl⟩:=bn D;obtain⟨j,d,rfl⟩:=bn B;rcases Nat.lt_trichotomy i j with q|q|q
 ·exact bZ.mp h i j hi d q
 ·subst q;exact absurd rfl ne
 ·exact sy _ B _ D (bZ.mp h j i d hi q)
section
variable{ns ms:List Str}(hl:ms.length=ns.length)(nn:ns.Nodup)(nm:ms.Nodup)
include hl nm
include nn in
include nn in
end
end L2
namespace Toy
open PySem L2
section
variable{α β:Type}
def apP(R:α->α->Bool):(α->Bool)->List α->Nat->Nat
 |_,_,0=>1
 |_,[],_+1=>0
 |p,a::l,k+1=>(if p a=true then apP R (λb=>p b&&R a b) l k else 0)+apP R p l (k+1)
def pwB(R:α->α->Bool):List α->Bool
 |[]=>true
 |a::s=>s.all (R a)&&pwB R s
def twP(R:α->α->Bool)(p:α->Bool)(x y:α)(l:List α):Nat->Nat
 |0=>0
 |j+1=>apP R (λc=>(p c&&R x c)&&R y c) l j
theorem aZg(R:α->α->Bool)(p:α->Bool)(l:List α):apP R p l 0=1:=by cases l <;> rfl
theorem cZk(R:α->α->Bool):∀(l:List α) (k:Nat) (p:α->Bool),((ch l k).filter λs=>s.all p&&pwB R s).length=apP R p l k
 |l,0,p=>by rw[aZc,aZg];rfl
 |[],k+1,p=>rfl
 |a::l,k+1,p=>by
  rw[aZ1,fx,ar,cZk R l (k+1) p,List.filter_map,ae];show _=(if p a=true then _ else 0)+_
  congr 1
  cases h:p a with
  |false =>
   rw[if_neg ce,gB,gT];intro s _ z;have z:((p a&&s.all p)&&(s.all (R a)&&pwB R s))=true:=z;rw[h] at z;cases z
  |true =>
   rw[if_pos rfl,<- cZk R l k]
   congr 1
   refine gU λs hm=>?_;clear hm;show((p a&&s.all p)&&(s.all (R a)&&pwB R s))=((s.all λb=>p b&&R a b)&&pwB R s);rw[h,eY,<- Bool.and_assoc]
   congr 1
   induction s with
   |nil=>rfl
   |cons b s d =>
    rw[ik,ik,ik,<- d];cases p b <;> cases R a b <;> cases s.all p <;> rfl
theorem aJ8{R R':α->α->Bool}:∀(l:List α) (k:Nat) (p p':α->Bool),(∀a∈l,p a=p' a)->(∀a∈l,∀b∈l,p a=true->p b=true->R a b=R' a b)->apP R p l k=apP R' p' l k
 |l,0,p,p',_,_=>by rw[aZg,aZg]
 |[],k+1,p,p',_,_=>rfl
 |a::l,k+1,p,p',h,i=>by
  show(if p a=true then _ else 0)+_=(if p' a=true then _ else 0)+_
  rw[<- h a ao,aJ8 l (k+1) p p' (λb d=>h b (am _ d)) λb d c j=>i b (am _ d) c (am _ j)]
  congr 1
  by_cases e:p a=true
  ·rw[if_pos e,if_pos e];refine aJ8 l k _ _ (λb d=>?_) λb d c j h1 h2=>i b (am _ d) c (am _ j) ((aL _ _).mp h1).1 ((aL _ _).mp h2).1;show(p b&&R a b)=(p' b&&R' a b);rw[<- h b (am _ d)];cases hp:p b with
   |false=>rfl
   |true=>rw[i a ao b (am _ d) e hp]
  ·rw[if_neg e,if_neg e]
theorem aXm(R:α->α->Bool)(q:α->Bool):∀(l:List α) (k:Nat) (p:α->Bool),apP R p (l.filter q) k=apP R (λa=>p a&&q a) l k
 |l,0,p=>by rw[aZg,aZg]
 |[],k+1,p=>rfl
 |a::l,k+1,p=>by
  rw[cK];show _=(if (p a&&q a)=true then _ else 0)+_
  cases hq:q a with
  |false=>rw[if_neg ce,iS,if_neg ce,Nat.zero_add,aXm R q l (k+1) p]
  |true =>
   rw[if_pos rfl,Bool.and_true];show(if p a=true then _ else 0)+_=_
   rw[aXm R q l (k+1) p]
   congr 1
   by_cases e:p a=true
   ·rw[if_pos e,if_pos e,aXm R q l k];refine aJ8 l k _ _ (λb _=>?_) λ_ _ _ _ _ _=>rfl;show((p b&&R a b)&&q b)=((p b&&q b)&&R a b);cases p b <;> cases R a b <;> cases q b <;> rfl
   ·rw[if_neg e,if_neg e]
theorem cQ6(f:β->α)(R:α->α->Bool):∀(l:List β) (k:Nat) (p:α->Bool),apP R p (l.map f) k=apP (λa b=>R (f a) (f b)) (λa=>p (f a)) l k
 |l,0,p=>by rw[aZg,aZg]
 |[],k+1,p=>rfl
 |a::l,k+1,p=>by
  rw[bd];show(if p (f a)=true then _ else 0)+_=(if p (f a)=true then _ else 0)+_
  rw[cQ6 f R l (k+1) p,cQ6 f R l k]
theorem dXf{R:α->α->Bool}(sy:∀a b,R a b=R b a){l l':List α}(h:l.Perm l'):∀(k:Nat) (p:α->Bool),apP R p l k=apP R p l' k:=by
 induction h with
 |nil=>intro k p;rfl
 |@cons a l l' _ i =>
  intro k p;cases k with
  |zero=>rfl
  |succ k =>
   show(if p a=true then _ else 0)+_=(if p a=true then _ else 0)+_
   rw[i (k+1) p,i k]
 |@swap a b l =>
  intro k p;cases k with
  |zero=>rfl
  |succ k =>
   show(if p b=true then apP R (λc=>p c&&R b c) (a::l) k else 0)+((if p a=true then apP R (λc=>p c&&R a c) l k else 0)+apP R p l (k+1))=(if p a=true then apP R (λc=>p c&&R a c) (b::l) k else 0)+((if p b=true then apP R (λc=>p c&&R b c) l k else 0)+apP R p l (k+1))
   have key:∀x y:α,(if p x=true then apP R (λc=>p c&&R x c) (y::l) k else 0)=(if p x=true/\p y=true/\R x y=true then twP R p x y l k else 0)+(if p x=true then apP R (λc=>p c&&R x c) l k else 0):=λx y=>by
    by_cases e:p x=true
    ·rw[if_pos e,if_pos e];cases k with
     |zero =>
      rw[aZg,aZg]
      split <;> rfl
     |succ j =>
      show(if (p y&&R x y)=true then _ else 0)+_=_
      congr 1
      by_cases d:p y=true/\R x y=true
      ·rw[if_pos (by rw[d.1,d.2];rfl),if_pos ⟨e,d.1,d.2⟩];rfl
      ·rw[if_neg (λz=>d ((aL _ _).mp z)),if_neg (λz=>d z.2)]
    ·rw[if_neg e,if_neg e,if_neg (λz=>e z.1)]
   rw[key b a,key a b];have s1:(if p b=true/\p a=true/\R b a=true then twP R p b a l k else 0)=(if p a=true/\p b=true/\R a b=true then twP R p a b l k else 0):=by
    rw[sy b a]
    by_cases e:p a=true/\p b=true/\R a b=true
    ·rw[if_pos e,if_pos ⟨e.2.1,e.1,e.2.2⟩];cases k with
     |zero=>rfl
     |succ j =>
      show apP R _ l j=apP R _ l j;refine aJ8 l j _ _ (λc _=>?_) λ_ _ _ _ _ _=>rfl;show((p c&&R b c)&&R a c)=((p c&&R a c)&&R b c);cases p c <;> cases R a c <;> cases R b c <;> rfl
    ·rw[if_neg e,if_neg (λz=>e ⟨z.2.1,z.1,z.2.2⟩)]
   rw[s1];omega
 |trans _ _ h1 h2=>intro k p;rw[h1 k p,h2 k p]
end
end Toy
set_option maxHeartbeats 4000000
namespace L2
open PySem
theorem eXy(xs:List D)(i:Nat):cutD xs none (some (i:Int))=xs.take i:=by
 show(xs.drop 0).take (HT.sIx xs.length xs.length (some ((i:Nat):Int))-0)=_;rw[HT.sIx_nat,iT,Nat.sub_zero];rcases Nat.le_total i xs.length with h|h
 ·rw[Nat.min_eq_left h]
 ·rw[Nat.min_eq_right h,bR,bI h]
theorem aJl{ts:List (List Str)}{N:List Str}(h:∀t∈ts,∀x∈t,x∈N):(nms ts).length<=N.length:=(cQ1 ts).nodup.length_le_of_subset λx i=>by
 obtain⟨t,j,d⟩:=mem_nms.mp i;exact h t j x d
end L2
set_option maxHeartbeats 1000000
namespace Toy
open PySem L2
theorem pwB_iff{α:Type}{R:α->α->Bool}:∀{s:List α},pwB R s=true↔s.Pairwise λa b=>R a b=true
 |[]=>⟨λ_=>.nil,λ_=>rfl⟩
 |a::s=>by
  show(s.all (R a)&&pwB R s)=true↔_;rw[aL,bB,bb,pwB_iff]
theorem aXp(a b:List Str):mts a b=mts b a:=by
 refine eR.mpr ?_;rw[mts_iff,mts_iff];exact⟨λ⟨x,h1,h2⟩=>⟨x,h2,h1⟩,λ⟨x,h1,h2⟩=>⟨x,h2,h1⟩⟩
def cwc(ts:List (List Str))(m:Nat)(c:List Str):Nat:=((ch ts m).filter λs=>decide (coG s=some c)).length
def lkC(ts:List (List Str))(c:List Str):List (List Str):=srT ((ts.filter λt=>has t c).map λt=>wo t c)
theorem bQt{a b c:List Str}(ha:Srt a)(hc:Srt c)(pa:has a c=true)(pb:has b c=true):meG a b=c↔mts (wo b c) (wo a c)=false:=by
 have pa:=has_iff.mp pa;have pb:=has_iff.mp pb;constructor
 ·intro h;rw[<- ie,mts_iff];rintro⟨x,h1,h2⟩;rw[mem_wo] at h1 h2;exact h1.2 (by rw[<- h];exact mem_me.mpr ⟨h1.1,h2.1⟩)
 ·intro h;refine Srt.ext (cN _ ha) hc λn=>?_;rw[mem_me];constructor
  ·rintro⟨h1,h2⟩;refine aX λz=>?_
   have:mts (wo b c) (wo a c)=true:=mts_iff.mpr ⟨n,mem_wo.mpr ⟨h1,z⟩,mem_wo.mpr ⟨h2,z⟩⟩
   rw[h] at this;cases this
  ·exact λd=>⟨pa n d,pb n d⟩
theorem fXw{ts:List (List Str)}(nd:ts.Nodup)(hs:∀t∈ts,Srt t){m:Nat}(m2:2<=m){c:List Str}(hc:Srt c):cwc ts m c=apP (λa b=>!mts b a) (λ_=>true) (lkC ts c) m:=by
 unfold lkC;rw[dXf (λa b=>by rw[aXp]) (aXk _),cQ6,aXm,<- cZk]
 unfold cwc
 congr 1
 refine gU λs h=>?_;obtain⟨sl,sub⟩:=aQo h;have sn:s.Nodup:=nd.sublist sub;have ss:∀o∈s,Srt o:=λo L=>hs o (sub.subset L);refine eR.mpr ?_;rw[decide_eq_true_iff,dXc (by omega) sn ss,aL,bB,pwB_iff]
 constructor
 ·intro B;have all:∀x∈s,(true&&has x c)=true:=by
   obtain⟨a,b,r,rfl⟩:∃a b r,s=a::b::r:=by
    cases s with
    |nil=>rw[cZ] at sl;omega
    |cons a s =>
     cases s with
     |nil=>rw[dW] at sl;omega
     |cons b s=>exact⟨a,b,s,rfl⟩
   have h1:=(bb.mp B).1;intro x G;rw[eY,has_iff];intro n D;rcases aA.mp G with rfl|G
   ·have:=h1 b ao
    rw[<- this] at D;exact(mem_me.mp D).1
   ·have:=h1 x G
    rw[<- this] at D;exact(mem_me.mp D).2
  refine⟨all,bC (λ{a b} j J e=>?_) B⟩;have i:=all a j;have d:=all b J;rw[eY] at i d;rw[(bQt (ss a j) hc i d).mp e];rfl
 ·rintro⟨all,B⟩;refine bC (λ{a b} j J e=>?_) B;have i:=all a j;have d:=all b J;rw[eY] at i d;refine(bQt (ss a j) hc i d).mpr ?_;cases z:mts (wo b c) (wo a c) with
  |false=>rfl
  |true=>rw[z] at e;cases e
end Toy
namespace L2
open PySem PySem.Spec PyProof.Rows
section
variable{prog:aD}{w:aR}{A:bi}{R:Result->aj->Prop}{s0:aj}{vs:List ad}{I S:Addr}{fp:List Addr}{St:Nat->bj->Prop}{kf:Nat->Int}
abbrev fXx(prog:aD)(w:aR)(A:bi)(s0:aj)(vs:List ad)(kf:Nat->Int):Prop:=∀(i:Nat) (v:ad) (h:bj) (tk:Nat) (Q:ad->aj->Prop) (E:ad->aj->Prop),vs[i]?=some v->Kp s0.heap h->(∀t tk',Q (.int (kf i) t) {s0 with heap:=h,toks:=tk'})->aH (aF prog w) A.in1 (call (.builtin "len") [v]) Q E {s0 with heap:=h,toks:=tk}
theorem dQi(W:Walks prog w A.in1 I fp [I] vs.length (λi v=>vs[i]?=some v) St)(hI:s0.heap.objs.size<=I)(hIS:I<S)(hSf:S∉fp)(turn:fXx prog w A s0 vs kf)
  (fin:∀v h tk,vs[fW (λi j=>decide (kf i<kf j)) (vs.length-1)]?=some v->Kp s0.heap h->R (.ok (.ret v)) {s0 with heap:=h,toks:=tk}) :
  ∀(left j:Nat) (h:bj) (tk:Nat) (vb:ad) (tb:Tok) (c:Nat),j+1+left=vs.length->Kp s0.heap h->St (j+1) h->vs[fW (λi j=>decide (kf i<kf j)) j]?=some vb->h.get? S=some (bV "list" #[vb,.int (kf (fW (λi j=>decide (kf i<kf j)) j)) tb] c) ->
   fu (aF prog w) A (.builtin "min.loop" ⟨[.ref I,.builtin "len",.ref S],[]⟩) R {s0 with heap:=h,toks:=tk}:=by
 have Y:S≠I:=Nat.ne_of_gt hIS;have nI:∀b o,s0.heap.get? b=some o->b≠I:=λb o e z=>absurd (aB e) (by rw[z];exact Nat.not_lt.mpr hI)
 have nS:∀b o,s0.heap.get? b=some o->b≠S:=λb o e z=>absurd (aB e) (by rw[z];exact Nat.not_lt.mpr (Nat.le_trans hI (Nat.le_of_lt hIS)))
 have word:(toString "min"++toString ".loop":String)="min.loop":=by decide
 intro left
 induction left with
 |zero =>
  intro j h tk vb tb c hj kp st hb U;refine c5 F.entry_min_loop ?_;rw[cB F.plain_min_loop _];show aH (aF prog w) A.in1 (jG (.ref S)>>=_) _ _ {s0 with heap:=h,toks:=tk}
  refine aa (cA U rfl ?_);show aH (aF prog w) A.in1 (ko (ff (.ref I)) _>>=_) _ _ {s0 with heap:=h,toks:=tk}
  refine aa (fP (W.done {s0 with heap:=h,toks:=tk} _ _ ((show j+1=vs.length from hj)▸st) λh1 B O=>?_))
  have d:=O S _ (by simpa using Y) U
  show aH (aF prog w) A.in1 (updateSeq S (λ_=>#[])>>=_) _ _ _;refine aa ?_;refine fz d rfl (aa (gE (af (fin vb _ B ?_ λb o e=>?_))))
  ·have e:vs.length-1=j:=by omega
   rw[e];exact hb
  ·exact(bE _ _ (cv (nS b o e))).trans (O b o (by simpa using nI b o e) (kp b o e))
 |succ left ih =>
  intro j h tk vb tb c hj kp st hb U;refine c5 F.entry_min_loop ?_;rw[cB F.plain_min_loop _];show aH (aF prog w) A.in1 (jG (.ref S)>>=_) _ _ {s0 with heap:=h,toks:=tk}
  refine aa (cA U rfl ?_);show aH (aF prog w) A.in1 (ko (ff (.ref I)) _>>=_) _ _ {s0 with heap:=h,toks:=tk}
  refine aa (fP (W.item (j+1) {s0 with heap:=h,toks:=tk} _ _ (by omega) st λv h1 B hv L O=>?_))
  have d:=O S _ (by simpa using Y) U
  have D:Kp s0.heap h1:=λb o e=>O b o (by simpa using nI b o e) (kp b o e)
  show aH (aF prog w) A.in1 (ko (fQ [v] (call (.builtin "len") [v])) _>>=_) _ _ _;refine aa (fP (bG (turn (j+1) v h1 B _ _ hv D λG J=>?_)));show aH (aF prog w) A.in1 (ko (fQ [v,_] (richCompare .Lt (.int (kf (j+1)) G) (.int _ tb)>>=_)) _>>=_) _ _ _;refine aa (fP (bG (aa (HT.rcLt_int _ _ _ _ _ _ _ _ _ _ ?_))));refine aa (bG (cS (aa (gE (af ?_)))));cases e:decide (kf (j+1)<kf (fW (λi j=>decide (kf i<kf j)) j)) with
  |true =>
   rw[if_pos rfl];refine aa ?_;refine fz d rfl (aa (gE ?_));rw[word];have hs3:(h1.update S (bO λ_=>#[v,.int (kf (j+1)) G])).get? S=some (bV "list" #[v,.int (kf (j+1)) G] _):=eS d λ_=>#[v,.int (kf (j+1)) G];have kp4:Kp s0.heap (h1.update S (bO λ_=>#[v,.int (kf (j+1)) G])):=λb o eo=>(bE _ _ (cv (nS b o eo))).trans (D b o eo);have Z:fW (λi j=>decide (kf i<kf j)) (j+1)=j+1:=by simp only[fW,e,if_true]
   refine af ⟨eG F.plain_min_loop _,ih (j+1) _ J v G _ (by omega) kp4 (W.frame _ _ _ L λb hb' o eo=>?_) (by rw[Z];exact hv) (by rw[Z];exact hs3)⟩
   exact(bE _ _ (λz:S=b=>hSf (by rw[z];exact hb'))).trans eo
  |false =>
   rw[if_neg (by simp)]
   refine aa (gE ?_);rw[word];have Z:fW (λi j=>decide (kf i<kf j)) (j+1)=fW (λi j=>decide (kf i<kf j)) j:=by simp only[fW,e,aS,if_false]
   refine af ⟨eG F.plain_min_loop _,ih (j+1) h1 J vb tb c (by omega) D L (by rw[Z];exact hb) (by rw[Z];exact d)⟩
theorem dQj{E:ad->aj->Prop}{x:ad}{Q:ad->aj->Prop}{s:aj}(hv0:vs≠[])
  (it:∀R':ad->aj->Prop,(∀I h fp St,s.heap.objs.size<=I->I∈fp->(∀b∈fp,b<h.objs.size)->Kp s.heap h->St 0 h->Walks prog w A.in1 I fp [I] vs.length (λi v=>vs[i]?=some v) St->R' (.ref I) {s with heap:=h})->aH (aF prog w) A.in1 (jR x) R' E s)
  (turn:fXx prog w A s vs kf)
  (fin:∀v h tk,vs[fW (λi j=>decide (kf i<kf j)) (vs.length-1)]?=some v->Kp s.heap h->Q v {s with heap:=h,toks:=tk}) :
  aH (aF prog w) A (call (.builtin "min") [x] [(aP "key",.builtin "len")]) Q E s:=by
 have word:(toString "min"++toString ".loop":String)="min.loop":=by decide
 refine kmk_tree F.kind_min F.plain_min F.entry_min (kmk_min_key _ _) ?_;have bp:iK "min" ["key", "default"] 0 ⟨[],[(aP "key",.builtin "len")]⟩=pure [some (.builtin "len"),none]:=rfl;show aH (aF prog w) A.in1 (iK "min" ["key", "default"] 0 ⟨[],[(aP "key",.builtin "len")]⟩>>=_) _ _ s;refine aa (jh bp ?_);show aH (aF prog w) A.in1 (pure x>>=λitems=>jR items>>=_) _ _ s;refine aa (af ?_);refine aa (it _ λI h fp St hI hIf L kp st W=>aa (bz ?_));rw[word];have O:h.objs.size∉fp:=λz=>Nat.lt_irrefl _ (L _ z);have d:I<h.objs.size:=L I hIf;show aH (aF prog w) A.in1 (again (Code.builtin "min.loop" ⟨[.ref I,.builtin "len",.ref h.objs.size],[]⟩)) _ _ {s with heap:=h.push (bV "list" #[] 0)}
 have J:(h.push (bV "list" #[] 0)).get? h.objs.size=some (bV "list" #[] 0):=av _ rfl;have kp1:Kp s.heap (h.push (bV "list" #[] 0)):=λb o e=>ah _ (kp b o e);have st1:St 0 (h.push (bV "list" #[] 0)):=W.frame _ _ _ st λb _ o e=>ah _ e;have hSI:h.objs.size≠I:=Nat.ne_of_gt d;have nI:∀b o,s.heap.get? b=some o->b≠I:=λb o e z=>absurd (aB e) (by rw[z];exact Nat.not_lt.mpr hI)
 have nS:∀b o,s.heap.get? b=some o->b≠h.objs.size:=λb o e z=>absurd (aB e) (by rw[z];exact Nat.not_lt.mpr (Nat.le_trans hI (Nat.le_of_lt d)))
 refine af ⟨eG F.plain_min_loop _,c5 F.entry_min_loop ?_⟩;rw[cB F.plain_min_loop _];show aH (aF prog w) A.in1 (jG (.ref h.objs.size)>>=_) _ _ {s with heap:=h.push (bV "list" #[] 0)}
 refine aa (cA J rfl ?_);show aH (aF prog w) A.in1 (ko (ff (.ref I)) _>>=_) _ _ {s with heap:=h.push (bV "list" #[] 0)}
 have hn:0<vs.length:=dg.mpr hv0;refine aa (fP (W.item 0 {s with heap:=h.push (bV "list" #[] 0)} _ _ hn st1 λv h1 Y hv Z k1=>?_))
 have G:=k1 h.objs.size _ (by simpa using hSI) J
 have D:Kp s.heap h1:=λb o e=>k1 b o (by simpa using nI b o e) (kp1 b o e)
 show aH (aF prog w) A.in1 (ko (fQ [v] (call (.builtin "len") [v])) _>>=_) _ _ _;refine aa (fP (bG (turn 0 v h1 Y _ _ hv D λB U=>?_)));show aH (aF prog w) A.in1 (updateSeq h.objs.size (λ_=>#[v,.int (kf 0) B])>>=_) _ _ _;refine aa ?_;refine fz G rfl ?_;rw[word];have hs4:(h1.update h.objs.size (bO λ_=>#[v,.int (kf 0) B])).get? h.objs.size=some (bV "list" #[v,.int (kf 0) B] _):=eS G λ_=>#[v,.int (kf 0) B];have kp5:Kp s.heap (h1.update h.objs.size (bO λ_=>#[v,.int (kf 0) B])):=λb o e=>(bE _ _ (cv (nS b o e))).trans (D b o e);refine af ⟨eG F.plain_min_loop _,dQi (s0:=s) (R:=wants Q E) W hI d O turn fin (vs.length-1) 0 _ U v B _ (by omega) kp5 (W.frame _ _ _ Z λb hb' o eo=>?_) hv hs4⟩
 exact(bE _ _ (λz:h.objs.size=b=>O (by rw[z];exact hb'))).trans eo
end
section
variable{X:Cx}{K:Fg}{pos:Pos}{k:Nat}
def shT(ts:List (List Str)):List Str:=ts.getD (fW (λi j=>decide (((ts.getD i []).length:Int)<((ts.getD j []).length:Int))) (ts.length-1)) []
def gQo(K:Fg)(te:TE):TE:=fun σ H Q=>te σ H λx H1=>∃a us,∃kf:Nat->Nat,x=.ref a/\SqT K H1 a us/\us≠[]/\(∀(i:Nat) u,us[i]?=some u->∃b ys,u=.ref b/\SqT K H1 b ys/\ys.length=kf i)/\∀u,us[fW (λi j=>decide ((kf i:Int)<(kf j:Int))) (us.length-1)]?=some u->Q u H1
theorem eXz{e:Expr}{p kp kp':Pos}{te:TE}(hg:Gl X "min")(hm:X.mg "min"=none)(hg':Gl X "len")(hm':X.mg "len"=none)(he:PE X e te)(hK:X.K=K:=by rfl)(hc:X.calm=true:=by rfl)
  (h1:cD pos (au [e] X.env)=[(false,eval e X.env)]:=by rfl) (h2:(iR pos (fK [⟨some "key",.Name "len" kp',kp⟩] X.env)).filterMap (·.1)=[("key":Str)]:=by rfl) :
  PE X (.Call (.Name "min" p) [e] [⟨some "key",.Name "len" kp',kp⟩] pos) (gQo K te):=by
 subst hK;intro pins s σ H Q I h;refine gw (ld_blt I hg hm (show bH "min"=some (.builtin "min") from rfl) ?_ (by decide) (by decide))
 have h3:(cD pos (au [e] X.env)).any (·.1)=false:=by rw[h1];rfl
 have h4:cD pos (au [e] X.env)=(false,eval e X.env)::cD pos (au [] X.env):=by rw[h1];rfl
 refine callWith_kw ?_ h4 h3 rfl rfl;rw[h1,h2];refine Calls.spliced_cons (thn (he pins s σ H _ I h) λv s1 ⟨x,H1,D,r1,a,us,kf,L,sq,ne,ut,q⟩=>Calls.spliced_nil ?_);subst L;cases r1;refine kws_cons (ld_blt D hg' hm' (show bH "len"=some (.builtin "len") from rfl) (kws_nil ?_) (by decide) (by decide))
 have hh:X.A.in1.handled=none:=by simp[D.ok.hd hc]
 obtain⟨its,U,pl,hz⟩:=D.tuple sq;have hl:=U.length;have at_:∀(i:Nat) (v:ad),its[i]?=some v->∃u,us[i]?=some u/\RelV u v:=λi v d=>by
  have hi:=(ay.mp d).1;obtain⟨w,h1,h2⟩:=U.get (ag (show i<us.length by omega))
  rw[d] at h1;cases h1;exact⟨_,ag (show i<us.length by omega),h2⟩
 refine dQj (kf:=λi=>(kf i:Int)) (vs:=its) (λz=>ne (bU (by rw[hl,z];rfl))) (λR' h=>eJ (show s1.heap.IsTuple a its.toArray from pl) ?_) (λi v h O Q' E' d kp Y=>?_) λv h O d kp=>?_
 ·obtain⟨o,ho,_⟩:=id pl;have B:a<s1.heap.objs.size:=aB ho;have W:=Walks.tuple (prog:=X.prog) (w:=X.w) (A:=X.A.in1) hh s1.heap.objs.size a (Nat.ne_of_lt B) its.toArray;have L:its.toArray.size=its.length:=by simp
  have e2:(λi v=>its.toArray[i]?=some v)=(λ(i:Nat) (v:ad)=>its[i]?=some v):=by funext i v;simp
  rw[L,e2] at W;exact h _ _ _ _ (Nat.le_refl _) (by simp) (λb J=>by
   rw[cx];rcases aA.mp J with rfl|J
   ·exact Nat.lt_succ_self _
   ·rw[aG.mp J];exact Nat.lt_succ_of_lt B) (λb o e=>ah _ e) ⟨⟨_,av _ rfl,rfl,rfl⟩,(show s1.heap.IsTuple a its.toArray from pl).at λo e=>ah _ e⟩ W
 ·obtain⟨u,G,ru⟩:=at_ i v d;obtain⟨b,ys,rfl,Z,el⟩:=ut i u G;cases ru;obtain⟨ws,j,pw,hw⟩:=(D.kept (t':=O) kp).tuple Z;have hn:=bQ3;have e0:ws.length=kf i:=by rw[<- el,j.length]
  have:=Y
  refine len_tuple (items:=ws.toArray) pw (by simp only[aq];have:=j.length;omega) ?_
  rw[aq,e0];exact Y _ _
 ·obtain⟨u,G,ru⟩:=at_ _ v d;exact⟨u,H1,D.kept kp,ru,q u (by rw[hl];exact G)⟩
def gQp(te:ED):ED:=fun Γ S Q=>te Γ S λd S1=>∃ts:List (List Str),d=.tup (ts.map tupS)/\ts≠[]/\Q (tupS (shT ts)) S1
theorem fXy{e:Expr}{te:ED}{p kp kp':Pos}(hg:Gl X "min")(hm:X.mg "min"=none)(hg':Gl X "len")(hm':X.mg "len"=none)(he:PD K X e te)(hK:X.K=K:=by rfl)(hc:X.calm=true:=by rfl)
  (h1:cD pos (au [e] X.env)=[(false,eval e X.env)]:=by rfl) (h2:(iR pos (fK [⟨some "key",.Name "len" kp',kp⟩] X.env)).filterMap (·.1)=[("key":Str)]:=by rfl) :
  PD K X (.Call (.Name "min" p) [e] [⟨some "key",.Name "len" kp',kp⟩] pos) (gQp te) :=
 .of (eXz hg hm hg' hm' he.o hK hc h1 h2) fun σ H Q G=>G.el λF S Γ QD r g q c =>
  ⟨F,S,Γ,_,r,g,q,λv d H1 S1 J L v1 ⟨ts,Y,ne,O⟩=>by
   subst Y;unfold RepV at v1;obtain⟨a,us,rfl,ta,l⟩:=v1;have hl:=l.length;rw[ae] at hl;have D:us≠[]:=λz=>ne (bU (by rw[<- hl,z];rfl))
   have at_:∀(i:Nat) u,us[i]?=some u->RepV K (mt S1 F) H1 (tupS (ts.getD i [])) u/\i<ts.length:=λi u B=>by
    have hi:i<ts.length:=by rw[<- hl];exact(ay.mp B).1
    obtain⟨d,hd,j⟩:=l.get' B;rw[aQ,ag hi] at hd;rw[ai,ag hi];cases hd;exact⟨j,hi⟩
   refine⟨a,us,λi=>(ts.getD i []).length,rfl,ta.sq,D,λi u B=>?_,λu B=>?_⟩
   ·obtain⟨j,hi⟩:=at_ i u B;unfold tupS at j;unfold RepV at j;obtain⟨b,ys,rfl,tb,U⟩:=j;exact⟨b,ys,rfl,tb.sq,by rw[U.length,ae]⟩
   ·obtain⟨j,_⟩:=at_ _ u B;rw[hl] at j;have Z:=Cn.shift c J;exact Z.here L j O⟩
end
end L2
namespace Toy
open PySem L2
def Ap(R:List (List Str))(m:Nat):Prop:=∃s:List (List Str),s.Nodup/\(∀x∈s,x∈R)/\s.length=m/\s.Pairwise λa b=>mts a b=false
theorem Ap.zero(R:List (List Str)):Ap R 0:=⟨[],.nil,by simp,rfl,.nil⟩
def rsA(R:List (List Str))(c:List Str):List (List Str):=wor (wo R [c]) c
theorem mem_rsA{R:List (List Str)}{c x:List Str}:x∈rsA R c↔x∈R/\x≠c/\mts x c=false:=by
 unfold rsA wor wo;rw[az,az];simp[and_assoc]
theorem Ap.more{R:List (List Str)}{c:List Str}{m:Nat}(hc:c∈R)(h:Ap (rsA R c) m):Ap R (m+1):=by
 obtain⟨s,nd,sub,hl,i⟩:=h;refine⟨c::s,bS.mpr ⟨λz=>(mem_rsA.mp (sub c z)).2.1 rfl,nd⟩,λx d=>?_,by rw[aT,hl],bb.mpr ⟨λx d=>by rw[aXp];exact(mem_rsA.mp (sub x d)).2.2,i⟩⟩
 rcases aA.mp d with rfl|h
 ·exact hc
 ·exact(mem_rsA.mp (sub x h)).1
theorem Ap.less{R:List (List Str)}{one:List Str}{m:Nat}(ho:one∈R)(h:Ap R (m+1)):Ap (rsA R one) m\/∃c∈R,mts c one=true/\has c one=false/\Ap (rsA R c) m:=by
 obtain⟨s,nd,sub,hl,j⟩:=h;have al:=cZj (λa _ b _ h=>by rw[aXp];exact h) j
 have go:∀ c∈s,Ap (rsA R c) m:=λc d=>⟨s.erase c,nd.erase c,λx i=>by
  obtain⟨h1,h2⟩:=(eX nd).mp i;exact mem_rsA.mpr ⟨sub x h2,h1,al x h2 c d h1⟩,by rw[gk d,hl];rfl,j.sublist jb⟩
 by_cases h1:∃c∈s,mts c one=true/\has c one=false
 ·obtain⟨c,d,a,b⟩:=h1;exact .inr ⟨c,sub c d,a,b,go c d⟩
 left
 by_cases h2:one∈s
 ·exact go one h2
 by_cases L:∃c∈s,mts c one=true
 ·obtain⟨c,d,a⟩:=L;have J:has c one=true:=by
   cases e:has c one with
   |true=>rfl
   |false=>exact absurd ⟨c,d,a,e⟩ h1
  refine⟨s.erase c,nd.erase c,λx i=>?_,by rw[gk d,hl];rfl,j.sublist jb⟩
  obtain⟨O,B⟩:=(eX nd).mp i;refine mem_rsA.mpr ⟨sub x B,λe=>h2 (e▸B),?_⟩
  have:=al x B c d O
  rw[<- ie,mts_iff] at this ⊢;rintro⟨n,G,D⟩
  first
   |exact this ⟨n,has_iff.mp J n G,D⟩
   |exact this ⟨n,G,has_iff.mp J n D⟩
 ·match s,hl with
  |y::s,hl =>
   refine⟨s,(bS.mp nd).2,λx i=>mem_rsA.mpr ⟨sub x (am _ i),λe=>h2 (e▸am _ i),?_⟩,by simpa using hl,(bb.mp j).2⟩
   cases e:mts x one with
   |false=>rfl
   |true=>exact absurd ⟨x,am _ i,e⟩ L
theorem dJw{x:Int}:∀{l:List Int},x∈l->l.sum=x+(l.erase x).sum
 |a::l,h=>by
  by_cases e:a=x
  ·subst e;rw[List.erase_cons_head,eZ]
  ·have d:x∈l:=(aA.mp h).resolve_left λz=>e z.symm;rw[List.erase_cons_tail (by simpa using e),eZ,eZ,dJw d];omega
theorem bQ1:∀(L A B:List Int),L.Pairwise (λa b=>decide (a<=b)=true)->L.Perm (A++B)->(L.take A.length).sum<=A.sum
 |L,[],B,_,_=>by rw[cZ,km];exact jn _
 |[],a::A,B,_,h=>by have:=h.length_eq;simp at this
 |x::L,a::A,B,O,h=>by
  obtain⟨h1,h2⟩:=bb.mp O;have Y:x<=a:=by
   have:a∈x::L:=h.mem_iff.mpr (by simp)
   rcases aA.mp this with e|e
   ·exact Int.le_of_eq e.symm
   ·exact of_decide_eq_true (h1 a e)
  rw[aT,List.take_succ_cons,eZ,eZ]
  by_cases e:x=a
  ·subst e
   have:=bQ1 L A B h2 (jc h)
   omega
  have J:x∈A++B:=by
   have:x∈a::A++B:=h.mem_iff.mp ao
   rcases aA.mp this with z|z
   ·exact absurd z e
   ·exact z
  by_cases i:x∈A
  ·have d:A.Perm (x::A.erase x):=List.perm_cons_erase i;have p2:L.Perm ((a::A.erase x)++B):=by
    refine jc (a:=x) (h.trans ?_);exact((d.append_right B).cons a).trans (iW x a _)
   have:=bQ1 L (a::A.erase x) B h2 p2
   have j:=d.length_eq;have s1:=dJw i;rw[aT] at this j;rw[eZ] at this;rw[j];omega
  ·have U:x∈B:=(aJ.mp J).resolve_left i;have d:B.Perm (x::B.erase x):=List.perm_cons_erase U;have p2:L.Perm (A++(a::B.erase x)):=by
    refine jc (a:=x) (h.trans ?_);have G:(a::A++B).Perm (a::(A++(x::B.erase x))):=((dX A d)).cons a;have D:(a::(A++(x::B.erase x))).Perm (a::x::(A++B.erase x)):=(eH).cons a;exact G.trans (D.trans ((iW x a _).trans ((eH.symm).cons x)))
   have:=bQ1 L A (a::B.erase x) h2 p2
   omega
theorem Ap.small{R:List (List Str)}(nd:R.Nodup)(hs:∀t∈R,t.Nodup){m:Nat}(h:Ap R m):m<=R.length/\((srI (R.map λt=>(t.length:Int))).take m).sum<=((nms R).length:Int):=by
 obtain⟨s,sn,sub,rfl,D⟩:=h;refine⟨sn.length_le_of_subset sub,?_⟩;have G:R.Perm (s++R.filter λx=>!decide (x∈s)):=by
  refine(eL nd (eg.mpr ⟨sn,nd.filter _,λx d y i e=>by subst e;simpa [d] using (az.mp i).2⟩)).mpr λx=>?_
  rw[aJ,az]
  by_cases z:x∈s
  ·simp[z,sub x z]
  ·simp[z]
 have p2:=((bX0 (R.map λt=>(t.length:Int))).trans (G.map λt=>(t.length:Int)));rw[aW] at p2;have t1:=bQ1 _ _ _ (dJn _) p2;rw[ae] at t1;refine Int.le_trans t1 ?_;have fs:∀l:List (List Str),(l.map λt=>(t.length:Int)).sum=(l.flatten.length:Int):=λl=>by
  induction l with
  |nil=>rfl
  |cons a l J=>rw[bd,eZ,J,jm,ar];omega
 rw[fs];have fn:s.flatten.Nodup:=by
  unfold jV;rw[List.pairwise_flatten];refine⟨λt B=>hs t (sub t B),bC (λ{a b} O L h=>?_) D⟩;intro x d y i e;subst e
  have:mts a b=true:=by
   rw[mts_iff]
   first
    |exact⟨x,d,i⟩
    |exact⟨x,i,d⟩
  rw[h] at this;cases this
 have:=fn.length_le_of_subset (l₂:=nms R) λx d=>by
  obtain⟨t,B,j⟩:=List.mem_flatten.mp d;exact mem_nms.mpr ⟨t,sub t B,j⟩
 omega
end Toy
namespace L2
open PySem Toy
end L2
namespace L2
open PySem PySem.Spec PyProof.Rows
end L2
namespace L2
open PySem Toy
end L2
namespace Toy
open PySem L2
theorem Ap.sub{R:List (List Str)}(nd:R.Nodup){m:Nat}:Ap R m↔∃s:List (List Str),s.Sublist R/\s.length=m/\s.Pairwise λa b=>mts a b=false:=by
 constructor
 ·rintro⟨s,sn,sub,hl,d⟩;have al:=cZj (λa _ b _ h=>by rw[aXp];exact h) d
  have pm:(R.filter λx=>decide (x∈s)).Perm s:=(eL (nd.filter _) sn).mpr λx=>by
   rw[az];exact⟨λh=>of_decide_eq_true h.2,λh=>⟨sub x h,decide_eq_true h⟩⟩
  exact⟨_,fc,by rw[pm.length_eq,hl],bC (λ{a b} B j n=>al a (of_decide_eq_true (az.mp B).2) b (of_decide_eq_true (az.mp j).2) n) (nd.filter _)⟩
 ·rintro⟨s,sub,hl,d⟩;exact⟨s,nd.sublist sub,λx i=>sub.subset i,hl,d⟩
theorem eJ0{ts:List (List Str)}{c:List Str}(nd:ts.Nodup)(es:∀t∈ts,Srt t):(lkC ts c).Nodup:=by
 unfold lkC;refine(aXk _).nodup_iff.mpr (dj.mpr (bC (λ{a b} j i n e=>n ?_) (nd.filter _)));obtain⟨a1,a2⟩:=az.mp j;obtain⟨D,B⟩:=az.mp i;refine(es a a1).ext (es b D) λx=>?_;have key:∀x,x∈wo a c↔x∈wo b c:=λx=>by rw[e]
 by_cases d:x∈c
 ·exact⟨λ_=>has_iff.mp B x d,λ_=>has_iff.mp a2 x d⟩
 ·exact⟨λh=>(mem_wo.mp ((key x).mp (mem_wo.mpr ⟨h,d⟩))).1,λh=>(mem_wo.mp ((key x).mpr (mem_wo.mpr ⟨h,d⟩))).1⟩
theorem eJ1{ts:List (List Str)}(nd:ts.Nodup)(es:∀t∈ts,Srt t){m:Nat}(m2:2<=m){c:List Str}(sc:Srt c):Ap (lkC ts c) m↔∃s∈ch ts m,coG s=some c:=by
 rw[Ap.sub (eJ0 nd es)];have e:0<cwc ts m c↔∃s∈ch ts m,coG s=some c:=by
  unfold cwc;rw[ig];exact⟨λ⟨s,h⟩=>⟨s,(az.mp h).1,of_decide_eq_true (az.mp h).2⟩,λ⟨s,h1,h2⟩=>⟨s,az.mpr ⟨h1,decide_eq_true h2⟩⟩⟩
 rw[<- e,fXw nd es m2 sc,<- cZk,ig];constructor
 ·rintro⟨s,sub,rfl,d⟩;refine⟨s,az.mpr ⟨aX8 sub,?_⟩⟩;rw[aL,bB];exact⟨λ_ _=>rfl,pwB_iff.mpr (d.imp λ{a b} (h:mts a b=false)=>by rw[aXp,h];rfl)⟩
 ·rintro⟨s,h⟩;obtain⟨h1,h2⟩:=az.mp h;rw[aL] at h2;obtain⟨l,sub⟩:=aQo h1;exact⟨s,sub,l,(pwB_iff.mp h2.2).imp λ{a b} h=>by rw[aXp];simpa using h⟩
theorem eJ2{ts:List (List Str)}{one:List Str}{k:Nat}(nd:ts.Nodup)(es:∀t∈ts,Srt t)(ho:one∈ts)(k1:1<=k) :
  (∃s∈ch ts (k+1),one∈s/\(coG s).isSome=true)↔∃o∈wo ts [one],Ap (wor (lkC (wo ts [one]) (meG one o)) (wo one (meG one o))) k:=by
 have mo:∀o,o∈wo ts [one]↔o∈ts/\o≠one:=λo=>by rw[mem_wo,aG]
 have so:=es one ho;have G:∀c x,x∈wor (lkC (wo ts [one]) c) (wo one c)↔(∃o,o∈ts/\o≠one/\has o c=true/\wo o c=x)/\mts x (wo one c)=false:=λc x=>by
  have ew:∀(L:List (List Str)) (w:List Str),x∈wor L w↔x∈L/\mts x w=false:=λL w=>by unfold wor;rw[az];simp
  rw[ew];unfold lkC;rw[bX6,aV];constructor
  ·rintro⟨⟨o,h,e⟩,h2⟩;obtain⟨Y,h4⟩:=az.mp h;refine⟨⟨o,((mo o).mp Y).1,((mo o).mp Y).2,h4,e⟩,?_⟩;exact h2
  ·rintro⟨⟨o,h1,h2,Y,e⟩,h4⟩;refine⟨⟨o,az.mpr ⟨(mo o).mpr ⟨h1,h2⟩,Y⟩,e⟩,?_⟩;exact h4
 constructor
 ·rintro⟨s,hs,h1,hco⟩;obtain⟨c,j⟩:=b8.mp hco;obtain⟨sl,sub⟩:=aQo hs;have sn:=nd.sublist sub;have ss:∀o∈s,Srt o:=λo h=>es o (sub.subset h);have fm:=(dXc (by omega) sn ss).mp j
  have al:=cZj (λa D b B h=>by rw[<- h];exact eXx (ss b B) (ss a D)) fm
  have el:(s.erase one).length=k:=by rw[gk h1,sl];rfl
  have em:∀x,x∈s.erase one↔x≠one/\x∈s:=λx=>eX sn;obtain⟨o,Z⟩:=List.exists_mem_of_length_pos (show 0<(s.erase one).length by omega)
  obtain⟨o1,o2⟩:=(em o).mp Z;have ec:meG one o=c:=al one h1 o o2 (cv o1);have sc:Srt c:=by rw[<- ec];exact so.filter _
  have d:∀x∈s,has x c=true:=λx O=>by
   by_cases e:x=one
   ·subst e;rw[<- ec];exact has_iff.mpr λn hn=>(mem_me.mp hn).1
   ·have:=al x O one h1 e
    rw[<- this];exact has_iff.mpr λn hn=>(mem_me.mp hn).1
  refine⟨o,(mo o).mpr ⟨sub.subset o2,o1⟩,?_⟩;rw[ec];refine⟨(s.erase one).map λx=>wo x c,?_,λx O=>?_,by rw[ae,el],?_⟩
  ·refine dj.mpr (bC (λ{a b} D B n e=>n ?_) (sn.erase one));obtain⟨_,a2⟩:=(em a).mp D;obtain⟨_,J⟩:=(em b).mp B;refine(ss a a2).ext (ss b J) λx=>?_;have key:∀x,x∈wo a c↔x∈wo b c:=λx=>by rw[e]
   by_cases j:x∈c
   ·exact⟨λ_=>has_iff.mp (d b J) x j,λ_=>has_iff.mp (d a a2) x j⟩
   ·exact⟨λh=>(mem_wo.mp ((key x).mp (mem_wo.mpr ⟨h,j⟩))).1,λh=>(mem_wo.mp ((key x).mpr (mem_wo.mpr ⟨h,j⟩))).1⟩
  ·obtain⟨y,hy,rfl⟩:=aV.mp O;obtain⟨y1,y2⟩:=(em y).mp hy;exact(G c _).mpr ⟨⟨y,sub.subset y2,y1,d y y2,rfl⟩,(bQt so sc (d one h1) (d y y2)).mp (al one h1 y y2 (cv y1))⟩
  ·refine dj.mpr (bC (λ{a b} D B h=>?_) (fm.sublist jb));obtain⟨_,a2⟩:=(em a).mp D;obtain⟨_,J⟩:=(em b).mp B;rw[aXp];exact(bQt (ss a a2) sc (d a a2) (d b J)).mp h
 ·rintro⟨o,Z,s',sn,sub,hl,pw⟩;obtain⟨o1,o2⟩:=(mo o).mp Z;obtain⟨c,j⟩:∃c,meG one o=c:=⟨_,rfl⟩;rw[j] at sub;have sc:Srt c:=by rw[<- j];exact so.filter _
  have h1c:has one c=true:=by rw[<- j];exact has_iff.mpr λn hn=>(mem_me.mp hn).1
  have al:=cZj (λa _ b _ h=>by rw[aXp];exact h) pw
  let p:List Str->Bool:=λx=>decide (x=one)||(has x c&&decide (wo x c∈s'))
  let q:List Str->Bool:=λx=>decide (x≠one)&&(has x c&&decide (wo x c∈s'))
  have hp:∀x,x∈ts.filter p↔x∈ts/\(x=one\/(has x c=true/\wo x c∈s')):=λx=>by rw[az];simp[p]
  have U:∀x,x∈ts.filter q↔x∈ts/\x≠one/\has x c=true/\wo x c∈s':=λx=>by rw[az];simp[q]
  have inj:∀a∈ts.filter q,∀b∈ts.filter q,wo a c=wo b c->a=b:=λa D b B e=>by
   obtain⟨a1,_,a2,_⟩:=(U a).mp D;obtain⟨b1,_,J,_⟩:=(U b).mp B;refine(es a a1).ext (es b b1) λx=>?_;have key:∀x,x∈wo a c↔x∈wo b c:=λx=>by rw[e]
   by_cases j:x∈c
   ·exact⟨λ_=>has_iff.mp J x j,λ_=>has_iff.mp a2 x j⟩
   ·exact⟨λh=>(mem_wo.mp ((key x).mp (mem_wo.mpr ⟨h,j⟩))).1,λh=>(mem_wo.mp ((key x).mpr (mem_wo.mpr ⟨h,j⟩))).1⟩
  have pm:((ts.filter q).map λx=>wo x c).Perm s':=(eL (dj.mpr (bC (λ{a b} D B n e=>n (inj a D b B e)) (nd.filter _))) sn).mpr λx=>by
   rw[aV];constructor
   ·rintro⟨y,hy,rfl⟩;exact((U y).mp hy).2.2.2
   ·intro O;obtain⟨⟨y,y1,y2,y3,rfl⟩,_⟩:=(G c x).mp (sub x O);exact⟨y,(U y).mpr ⟨y1,y2,y3,O⟩,rfl⟩
  have lq:(ts.filter q).length=k:=by rw[<- hl,<- pm.length_eq,ae]
  have pq:(ts.filter p).Perm (one::ts.filter q):=(eL (nd.filter _) (bS.mpr ⟨λz=>((U _).mp z).2.1 rfl,nd.filter _⟩)).mpr λx=>by
   rw[hp,aA,U];constructor
   ·rintro⟨h1,h2|⟨h2,Y⟩⟩
    ·exact .inl h2
    ·by_cases e:x=one
     ·exact .inl e
     ·exact .inr ⟨h1,e,h2,Y⟩
   ·rintro(rfl|⟨h1,_,h2,Y⟩)
    ·exact⟨ho,.inl rfl⟩
    ·exact⟨h1,.inr ⟨h2,Y⟩⟩
  have lp:(ts.filter p).length=k+1:=by rw[pq.length_eq,aT,lq]
  have i:(ts.filter p).Sublist ts:=fc;refine⟨ts.filter p,by have:=aX8 i;rwa [lp] at this,(hp one).mpr ⟨ho,.inl rfl⟩,?_⟩
  rw[(dXc (c:=c) (by omega) (nd.filter _) λx O=>es x (i.subset O)).mpr]
  ·rfl
  have hh:∀x∈ts.filter p,has x c=true:=λx O=>by
   rcases((hp x).mp O).2 with rfl|h
   ·exact h1c
   ·exact h.1
  refine bC (λ{a b} D B n=>?_) (nd.filter _);refine(bQt (es a (i.subset D)) sc (hh a D) (hh b B)).mpr ?_;rcases((hp a).mp D).2 with rfl|⟨_,a2⟩
  ·rcases((hp b).mp B).2 with rfl|⟨_,J⟩
   ·exact absurd rfl n
   ·exact((G c _).mp (sub _ J)).2
  ·rcases((hp b).mp B).2 with rfl|⟨_,J⟩
   ·rw[aXp];exact((G c _).mp (sub _ a2)).2
   ·by_cases e1:a=one
    ·subst e1;exact((G c _).mp (sub _ J)).2
    by_cases e2:b=one
    ·subst e2;rw[aXp];exact((G c _).mp (sub _ a2)).2
    refine al _ J _ a2 λe=>n (inj a ((U a).mpr ⟨i.subset D,e1,hh a D,a2⟩) b ((U b).mpr ⟨i.subset B,e2,hh b B,J⟩) e.symm)
theorem dXg{ts:List (List Str)}(nd:ts.Nodup)(hs:∀t∈ts,Srt t){m:Nat}(m2:2<=m){s:List (List Str)}(h:s∈ch ts m){c:List Str}(e:coG s=some c):c∈mets ts:=by
 obtain⟨hl,sub⟩:=aQo h;have f:=(dXc (by omega) (sub.nodup nd) λo i=>hs o (sub.subset i)).mp e
 match s,hl,sub,f with
 |a::b::r,_,sub,f =>
  have d:meG a b=c:=(bb.mp f).1 b ao;refine aV.mpr ⟨[a,b],aX8 (s:=[a,b]) (List.Sublist.trans (kC a (kC b (jO r))) sub),d⟩
 |[],hl,_,_=>exact absurd hl (by show ¬ 0=m;omega)
 |[a],hl,_,_=>exact absurd hl (by show ¬ 1=m;omega)
abbrev s_so_many_apart:Stmt:=top 15
theorem sc_so_many_apart:FnScope ["sets", "many", "shortest", "one", "instead", "chosen"] ["sets", "many"] (aQ5 s_so_many_apart):=fsc
def dXh(n:Nat):SpD:=λds S Q=>∃(R:List (List Str)) (m:Nat),ds=[.tup (R.map tupS),.int m]/\m<n/\R.length<=14/\R.Nodup/\(∀t∈R,t.Nodup/\t.length<=12)/\(nms R).length<=60/\∀b:Bool,(b=true↔Ap R m)->Q (.bl b) S
def aZd:SpD:=dXh 8
theorem eJ3{R:List (List Str)}(h:R≠[]):shT R∈R:=by
 have:∀(bt:Nat->Nat->Bool) (k:Nat),fW bt k<=k:=λbt k=>by
  induction k with
  |zero=>exact Nat.le_refl _
  |succ k d=>unfold fW;split <;> omega
 have hl:=dg.mpr h;have h2:=this (λi j=>decide (((R.getD i []).length:Int)<((R.getD j []).length:Int))) (R.length-1);unfold shT;rw[ai,ag (by omega)]
 exact dD _
section
variable{P:aD}{w:aR}{K:ax}{mg:Str->Option ad}{base:bj}{pt cc:Addr}
theorem eJ4{k n:Nat}(T:Tx K mg "so_many_apart" s_so_many_apart)(B:Bs mg)(d_meets:Df P w K mg base k "meets" ["one", "row"] (spU K aJ6))(d_has_all:Df P w K mg base k "has_all" ["one", "row"] (spU K aX2))(d_names_of:Df P w K mg base k "names_of" ["sets"] (spU K aX6))(d_without_names:Df P w K mg base k "without_names" ["one", "row"] (spU K aQm))(d_without_row:Df P w K mg base k "without_row" ["sets", "row"] (spU K aQx))(d_so_many_apart:Df P w K mg base k "so_many_apart" ["sets", "many"] (spU K (dXh n))):Df P w K mg base (k+1) "so_many_apart" ["sets", "many"] (spU K (dXh (n+1))):=by
 refine aX1 T sc_so_many_apart (λF=>F.binds λ_ _ _ _ _ _=>us2 λ_ _=>rfl) ?_ λf cdv A outer s H E G=>⟨_,(aQ2 (aXa (bZu G (dv 1) aQ6) (aQ3 (aQi e_bl)) aQu)
  (aQ2 (aQf (i:=2) sc_so_many_apart.nd rfl (aY rfl) (e_sl (b:=false) (bX2 (b:=false) G rfl B.sorted (aQ0 (aZ8 (N':=["one"]) (oc:=none) (b:=false) [0] [] rfl sc_so_many_apart.nd (λ_ _ _=>aQe ..) (.own .nil) (aQh rfl) (aQz (dv 0)) (cg_name (i:=0)) (λ_ _ _ _ _=>aQb (i:=0) (nd_ ["one"]) rfl (aY rfl) (.inr rfl)) (λ_ _ _ _ _=>aZb) aQl (λ_ _ _ _ _ _=>aQk rfl (by exact PD.o (aXn rfl B.len (aQ0 (dv 0) aQ1))))) aQ1)) aXe (aZt (dv 1))))
  (aQ2 (aXa (PWD.pt (eZs (fZp G (aXn rfl B.len (aQ0 (dv 2) aQ1)) (dv 1)) (cJn (fZq G (gQi rfl B.sum (aQ0 (dv 2) aQ1)) (aXn rfl B.len (aQ0 (aQ4 d_names_of G rfl (aQ0 (dv 0) aQ1)) aQ1)))))) (aQ3 (aQi e_bl)) aQu)
  (aQ2 (aQf (i:=3) sc_so_many_apart.nd rfl (h9 rfl) (fXy rfl B.min rfl B.len (dv 0)))
  (aQ2 (aJj (i:=4) rfl (aY rfl) (N':=["other", "one"]) (oc:=none) (b:=false) [0] [] rfl sc_so_many_apart.nd (λ_ _ _=>aQe ..) (.own (.cap (i:=3) rfl (by decide +kernel) .nil)) (aQh rfl) (aQz (dv 0)) (cg_name (i:=0)) (λ_ _ _ _ _=>aQb (i:=0) (nd_ ["other", "one"]) rfl (aY rfl) (.inr rfl)) (λ_ _ _ _ _=>aQv (by exact(PWD.pt (dJe (aZl (aQ4 d_meets G rfl (aQ0 (dv 0) (aQ0 (dv 1) aQ1)))) (cJm (bQi (aZl (aQ4 d_has_all G rfl (aQ0 (dv 0) (aQ0 (dv 1) aQ1)))))))))) aQl (λ_ _ _ _ _ _=>aQk rfl (by exact PD.o (dv 0))))
  (aQ2 (aZj cb rfl (aQz (aQw (k:=false) (aZr (b:=false) (aQ0 (dv 3) aQ1)) (dv 4))) (aQq (i:=5) sc_so_many_apart.nd rfl (aY rfl)) (aQ3 (aXa (aZl (aQ4 d_so_many_apart G rfl (aQ0 (aQ4 d_without_row G rfl (aQ0 (aQ4 d_without_names G rfl (aQ0 (dv 0) (aQ0 (aJ0 (aQ0 (dv 5) aQ1)) aQ1))) (aQ0 (dv 5) aQ1))) (aQ0 (dZp (dv 1) aQ6) aQ1)))) (aQ3 (aQi e_bl)) aQu)))
  (aQ3 (aQi e_bl)))))))),?_⟩
 ·rintro ds S Q ⟨R,m,rfl,_⟩;rfl
 ·rintro ds S Q ⟨R,m,rfl,hm,rl,nd,he,rn,q⟩;have Y:∀b:Bool,(b=true↔Ap R m)->rtD Q (.bl b) S:=λb h=>aQj (q b h);refine⟨rfl,_,rfl,ite2 (λc1=>?_) λc1=>?_⟩
  ·have e:m=0:=by
    have:=of_decide_eq_true c1
    injection this with this
    omega
   subst e;exact Y true ⟨λ_=>Ap.zero R,λ_=>rfl⟩
  obtain⟨c,rfl⟩:∃c,m=c+1:=⟨m-1,by have:m≠0:=λe=>c1 (decide_eq_true (by rw[e];rfl));omega⟩
  refine⟨_,rfl,aJy (enc:=tupS) (f:=λt=>D.int ((t.length:Nat):Int)) (λt j Q q=>⟨_,rfl,by rw[ae];exact q⟩) (aQd (by show 0+R.length<=_;omega)) (.inr (.inl ⟨R.map λt=>(t.length:Int),by rw[bN,cg];rfl,?_⟩))⟩
  refine⟨((c+1:Nat):Int),rfl,?_⟩;have ec:cutD ((srI (R.map λt=>(t.length:Int))).map D.int) none (some ((c+1:Nat):Int))=((srI (R.map λt=>(t.length:Int))).take (c+1)).map D.int:=by rw[eXy,List.map_take]
  refine⟨_,rfl,?_⟩;rw[ec];have sl:(srI (R.map λt=>(t.length:Int))).length=R.length:=by rw[(bX0 _).length_eq,ae]
  have tl:((srI (R.map λt=>(t.length:Int))).take (c+1)).length=min (c+1) R.length:=by rw[aK,sl]
  have sm:=λh=>Ap.small nd (λt j=>(he t j).1) (m:=c+1) h;generalize (srI (R.map λt=>(t.length:Int))).take (c+1)=L at tl sm;refine⟨_,rfl,_,rfl,ite2 (λc2=>?_) λc2=>?_⟩
  ·refine Y false ⟨(λz=>by cases z),λh=>?_⟩
   have:=(sm h).1
   have U:(((L.map D.int).length:Nat):Int)<((c+1:Nat):Int):=of_decide_eq_true c2;rw[ae] at U;omega
  refine⟨L,rfl,R,rfl,by omega,λt j=>(he t j).2,by omega,_,rfl,_,rfl,ite2 (λU=>?_) λU=>?_⟩
  ·refine Y false ⟨(λz=>by cases z),λh=>?_⟩
   have:=(sm h).2
   have c4:L.sum>((((nms R).map D.str).length:Nat):Int):=of_decide_eq_true U;rw[ae] at c4;omega
  have Z:R≠[]:=by
   rintro rfl;have U:¬ (((L.map D.int).length:Nat):Int)<((c+1:Nat):Int):=λh=>c2 (decide_eq_true h);rw[ae] at U;simp at tl;simp[tl] at U
  refine⟨R,rfl,Z,?_⟩;have ho:=eJ3 Z;have o12:=(he _ ho).2;refine⟨_,rfl,aQr (p:=λt=>mts t (shT R) && !has t (shT R)) (f:=tupS) (λt j Q q=>?_) (λt j _ Q q=>q) (aQd (by show 0+R.length<=_;omega)) ?_⟩
  ·have q:=q;refine⟨Str,inferInstance,strE,t,shT R,tupS t,tupS (shT R),rfl,by decide,.inl rfl,.inl rfl,by omega,?_⟩
   cases e:mts t (shT R) with
   |true =>
    rw[e,eY] at q;exact⟨Str,inferInstance,strE,t,shT R,tupS t,tupS (shT R),rfl,by decide,.inl rfl,.inl rfl,by omega,q⟩
   |false =>
    rw[e,kc] at q;exact q
  have key:Ap R (c+1)↔∃d∈shT R::R.filter (λt=>mts t (shT R) && !has t (shT R)),Ap (rsA R d) c:=by
   constructor
   ·intro h;rcases Ap.less ho h with h|⟨d,hd,h1,h2,h3⟩
    ·exact⟨_,ao,h⟩
    ·exact⟨d,am _ (az.mpr ⟨hd,by rw[h1,h2];rfl⟩),h3⟩
   ·rintro⟨d,hd,h⟩;rcases aA.mp hd with rfl|hd
    ·exact Ap.more ho h
    ·exact Ap.more (az.mp hd).1 h
  have ci:∀d∈shT R::R.filter (λt=>mts t (shT R) && !has t (shT R)),d∈R:=λd hd=>by
   rcases aA.mp hd with rfl|hd
   ·exact ho
   ·exact(az.mp hd).1
  have cn:(shT R::R.filter (λt=>mts t (shT R) && !has t (shT R))).length<=15:=by
   have:=aM (λt=>mts t (shT R) && !has t (shT R)) R
   rw[aT];omega
  rw[bN];refine⟨aQd (by show 1<=9999;decide),_,_,rfl,rfl,aQd (by rw[ae];show 1+_<=9999;rw[aT] at cn;omega),(shT R::R.filter (λt=>mts t (shT R) && !has t (shT R))).map tupS,rfl,?_⟩
  generalize shT R::R.filter (λt=>mts t (shT R) && !has t (shT R))=cd at key ci cn;refine aZ0 (λi Γ S'=>∃x2 x3 x4 x5:Option D,Γ=[some (.tup (R.map tupS)),some (.int ((c+1:Nat):Int)),x2,x3,x4,x5]/\S'=S/\∀d∈cd.take i,¬ Ap (rsA R d) c) ⟨_,_,_,_,rfl,rfl,by simp⟩ ?_ ?_
  ·rintro i x Γ S' N O ⟨x2,x3,x4,x5,rfl,rfl,J⟩ hN;rw[aQ,bh] at O;obtain⟨d,O,rfl⟩:=O;have hd:=ci d (ak O);have d12:=(he d hd).2;have wl:(wo R [d]).length<=14:=Nat.le_trans (aM _ _) rl;refine⟨trivial,aQd (by show 1<=9999;decide),List Str,inferInstance,setE,R,[d],.tup (R.map tupS),.tup [tupS d],rfl,by decide,.inl rfl,.inl rfl,by omega,wo R [d],d,rfl,by omega,by omega,?_⟩
   refine⟨rsA R d,c,?_,by omega,Nat.le_trans (aM _ _) wl,(nd.filter _).filter _,λt j=>he t (mem_rsA.mp j).1,Nat.le_trans (aJl (N:=nms R) λt j x O=>mem_nms.mpr ⟨t,(mem_rsA.mp j).1,O⟩) rn,λb hb=>?_⟩
   ·show [D.tup _,D.int (((c+1:Nat):Int)-1)]=_;rw[show(((c+1:Nat):Int)-1)=(c:Int) by omega];rfl
   ·cases b with
    |true=>exact Y true ⟨λ_=>key.mpr ⟨d,ak O,hb.mp rfl⟩,λ_=>rfl⟩
    |false =>
     refine hN _ _ ⟨_,_,_,_,rfl,rfl,λd' hd'=>?_⟩;rw[bJ,O] at hd';rcases aJ.mp hd' with h|h
     ·exact J d' h
     ·rw[aG.mp h];exact λz=>by have:=hb.mpr z;cases this
  ·rintro Γ S' ⟨x2,x3,x4,x5,rfl,rfl,J⟩;rw[ae,bR] at J;refine⟨trivial,Y false ⟨(λz=>by cases z),λh=>?_⟩⟩
   obtain⟨d,hd,h⟩:=key.mp h;exact absurd h (J d hd)
theorem dJx(T:Tx K mg "so_many_apart" s_so_many_apart)(B:Bs mg)(d_meets:Df P w K mg base 2 "meets" ["one", "row"] (spU K aJ6))(d_has_all:Df P w K mg base 2 "has_all" ["one", "row"] (spU K aX2))(d_names_of:Df P w K mg base 2 "names_of" ["sets"] (spU K aX6))(d_without_names:Df P w K mg base 2 "without_names" ["one", "row"] (spU K aQm))(d_without_row:Df P w K mg base 2 "without_row" ["sets", "row"] (spU K aQx)):∀n:Nat,Df P w K mg base (2+n) "so_many_apart" ["sets", "many"] (spU K (dXh n))
 |0=>T.df (λF=>F.binds λ_ _ _ _ _ _=>us2 λ_ _=>rfl) λF=>F.ok sc_so_many_apart (λvs H Q E ⟨_,_,_,_,_,_,⟨_,_,_,h,_⟩,_⟩=>absurd h (Nat.not_lt_zero _)) λd A outer s H vs Q j i ⟨_,_,_,_,_,_,⟨_,_,_,h,_⟩,_⟩=>absurd h (Nat.not_lt_zero _)
 |n+1=>eJ4 T B (d_meets.mono (Nat.le_add_right _ _)) (d_has_all.mono (Nat.le_add_right _ _)) (d_names_of.mono (Nat.le_add_right _ _)) (d_without_names.mono (Nat.le_add_right _ _)) (d_without_row.mono (Nat.le_add_right _ _)) (dJx T B d_meets d_has_all d_names_of d_without_names d_without_row n)
theorem aJv(T:Tx K mg "so_many_apart" s_so_many_apart)(B:Bs mg)(d_meets:Df P w K mg base 2 "meets" ["one", "row"] (spU K aJ6))(d_has_all:Df P w K mg base 2 "has_all" ["one", "row"] (spU K aX2))(d_names_of:Df P w K mg base 2 "names_of" ["sets"] (spU K aX6))(d_without_names:Df P w K mg base 2 "without_names" ["one", "row"] (spU K aQm))(d_without_row:Df P w K mg base 2 "without_row" ["sets", "row"] (spU K aQx)):Df P w K mg base 10 "so_many_apart" ["sets", "many"] (spU K aZd):=by
 exact dJx T B d_meets d_has_all d_names_of d_without_names d_without_row 8
end
abbrev s_link_of:Stmt:=top 8
theorem sc_link_of:FnScope ["sets", "row"] ["sets", "row"] (aQ5 s_link_of):=fsc
def aJm:SpD:=λds S Q=>∃(ts:List (List Str)) (row:List Str),ds=[.tup (ts.map tupS),tupS row]/\ts.length<=20/\row.length<=9999/\(∀t∈ts,t.length<=9999)/\Q (.tup ((lnk ts row).map tupS)) S
section
variable{P:aD}{w:aR}{K:ax}{mg:Str->Option ad}{base:bj}{pt cc:Addr}
theorem cX7(T:Tx K mg "link_of" s_link_of)(B:Bs mg)(d_has_all:Df P w K mg base 1 "has_all" ["one", "row"] (spU K aX2))(d_without_names:Df P w K mg base 1 "without_names" ["one", "row"] (spU K aQm)):Df P w K mg base 2 "link_of" ["sets", "row"] (spU K aJm):=by
 refine aX1 T sc_link_of (λF=>F.binds λ_ _ _ _ _ _=>us2 λ_ _=>rfl) ?_ λf G A outer s H E d=>⟨_,(aQ3 (aQi (aZs rfl B.tuple (aQ0 (bX2 (b:=false) d rfl B.sorted (aQ0 (aZ8 (N':=["one", "row"]) (oc:=none) (b:=false) [0] [] rfl sc_link_of.nd (λ_ _ _=>aQe ..) (.own (.cap (i:=1) rfl (by decide +kernel) .nil)) (aQh rfl) (aQz (dv 0)) (cg_name (i:=0)) (λ_ _ _ _ _=>aQb (i:=0) (nd_ ["one", "row"]) rfl (aY rfl) (.inr rfl)) (λ_ _ _ _ _=>aQv (by exact(aZl (aQ4 d_has_all d rfl (aQ0 (dv 0) (aQ0 (dv 1) aQ1)))))) aQl (λ_ _ _ _ _ _=>aQk rfl (by exact PD.o (aQ4 d_without_names d rfl (aQ0 (dv 0) (aQ0 (dv 1) aQ1)))))) aQ1)) aQ1)))),?_⟩
 ·rintro ds S Q ⟨j,row,rfl,_⟩;rfl
 ·rintro ds S Q ⟨j,row,rfl,hl,d,he,q⟩;refine⟨_,rfl,aQr (p:=λt=>has t row) (f:=λt=>tupS (wo t row)) (λt D Q q=>⟨Str,inferInstance,strE,t,row,tupS t,tupS row,rfl,by decide,.inl rfl,.inl rfl,d,q⟩) (λt D _ Q q=>⟨Str,inferInstance,strE,t,row,tupS t,tupS row,rfl,by decide,.inl rfl,.inl rfl,he t D,q⟩) (aQd (by show 0+j.length<=_;omega)) ?_⟩
  exact .inr (.inr ⟨(j.filter λt=>has t row).map λt=>wo t row,by rw[bN,cg];rfl,_,rfl,aQj q⟩)
end
abbrev s_in_flower:Stmt:=top 14
theorem sc_in_flower:FnScope ["sets", "many", "one", "others", "core", "beside"] ["sets", "many", "one"] (aQ5 s_in_flower):=fsc
def aJq:SpD:=λds S Q=>∃(ts:List (List Str)) (m:Nat) (one:List Str),ds=[.tup (ts.map tupS),.int m,tupS one]/\2<=m/\m<=7/\ts.length<=14/\SrtT ts/\(∀t∈ts,Srt t/\t.length<=6)/\(nms ts).length<=12/\one∈ts/\∀b:Bool,(b=true↔∃s∈ch ts m,one∈s/\(coG s).isSome=true)->Q (.bl b) S
section
variable{P:aD}{w:aR}{K:ax}{mg:Str->Option ad}{base:bj}{pt cc:Addr}
theorem bJ9(T:Tx K mg "in_flower" s_in_flower)(B:Bs mg)(d_without_names:Df P w K mg base 10 "without_names" ["one", "row"] (spU K aQm))(d_meet_of:Df P w K mg base 10 "meet_of" ["one", "other"] (spU K aJk))(d_link_of:Df P w K mg base 10 "link_of" ["sets", "row"] (spU K aJm))(d_without_row:Df P w K mg base 10 "without_row" ["sets", "row"] (spU K aQx))(d_so_many_apart:Df P w K mg base 10 "so_many_apart" ["sets", "many"] (spU K aZd)):Df P w K mg base 11 "in_flower" ["sets", "many", "one"] (spU K aJq):=by
 refine aX1 T sc_in_flower (λF=>F.binds λ_ _ _ _ _ _=>us3 λ_ _ _=>rfl) ?_ λf cdv A outer s H E Y=>⟨_,(aQ2 (aQf (i:=3) sc_in_flower.nd rfl (aY rfl) (aQ4 d_without_names Y rfl (aQ0 (dv 0) (aQ0 (aJ0 (aQ0 (dv 2) aQ1)) aQ1))))
  (aQ2 (aZj cb rfl (aQz (dQb (N':=["other", "one"]) (oc:=none) (b:=false) [0] [] Y rfl B.sorted rfl sc_in_flower.nd (λ_ _ _=>bJ0 ..) (.own (.cap (i:=2) rfl (by decide +kernel) .nil)) (aQh rfl) (aQz (dv 3)) (cg_name (i:=0)) (λ_ _ _ _ _=>aQb (i:=0) (nd_ ["other", "one"]) rfl (aY rfl) (.inr rfl)) (λ_ _ _ _ _=>aZb) dJq (λ_ _ _ _ _ _=>(bX4 (kn:=bJz _ _ _) rfl (lt10 Y) rfl rfl rfl (by exact PD.o (aQ4 d_meet_of Y rfl (aQ0 (dv 1) (aQ0 (dv 0) aQ1)))))))) (aQq (i:=4) sc_in_flower.nd rfl (aY rfl)) (aQ2 (aQf (i:=5) sc_in_flower.nd rfl (aY rfl) (aQ4 d_without_row Y rfl (aQ0 (aQ4 d_link_of Y rfl (aQ0 (dv 3) (aQ0 (dv 4) aQ1))) (aQ0 (aQ4 d_without_names Y rfl (aQ0 (dv 2) (aQ0 (dv 4) aQ1))) aQ1))))
  (aQ3 (aXa (aZl (aQ4 d_so_many_apart Y rfl (aQ0 (dv 5) (aQ0 (dZp (dv 1) aQ6) aQ1)))) (aQ3 (aQi e_bl)) aQu))))
  (aQ3 (aQi e_bl)))),?_⟩
 ·rintro ds S Q ⟨G,m,one,rfl,_⟩;rfl
 ·rintro ds S Q ⟨G,m,one,rfl,m2,m7,l14,hs,he,n12,ho,q⟩;obtain⟨k,rfl⟩:∃k,m=k+1:=⟨m-1,by omega⟩
  have nd:=hs.nodup;have es:=λt d=>(he t d).1;have o6:=(he one ho).2;have iff:=eJ2 nd es ho (show 1<=k by omega)
  have tq:∀b:Bool,(b=true↔∃o∈wo G [one],Ap (wor (lkC (wo G [one]) (meG one o)) (wo one (meG one o))) k)->rtD Q (.bl b) S:=λb h=>aQj (q b (h.trans iff.symm));refine⟨aQd (by show 1<=9999;decide),List Str,inferInstance,setE,G,[one],.tup (G.map tupS),.tup [tupS one],rfl,by decide,.inl rfl,.inl rfl,by omega,?_⟩
  have Ol:(wo G [one]).length<=14:=Nat.le_trans (aM _ _) l14;have Oe:∀t∈wo G [one],Srt t/\t.length<=6:=λt d=>he t (mem_wo.mp d).1;have On:(wo G [one]).Nodup:=nd.filter _;have Om:(nms (wo G [one])).length<=12:=Nat.le_trans (aJl (N:=nms G) λt d x j=>mem_nms.mpr ⟨t,(mem_wo.mp d).1,j⟩) n12;show dSeq _ _ _ [some (.tup (G.map tupS)),some (.int ((k+1:Nat):Int)),some (tupS one),some (.tup ((wo G [one]).map tupS)),none,none] S;clear iff q;generalize wo G [one]=O at Ol Oe On Om tq;refine⟨O.map tupS,rfl,aZ7 (λi acc S'=>S'=S/\acc=(((O.take i)).map (meG one)).map tupS) ⟨rfl,rfl⟩ ?_ ?_⟩
  ·rintro i x acc S' N j ⟨rfl,rfl⟩ hN;rw[aQ,bh] at j;obtain⟨o,j,rfl⟩:=j;have hi:=(ay.mp j).1;refine⟨trivial,one,o,rfl,by omega,meG one o,rfl,?_,hN _ _ ⟨rfl,?_⟩⟩
   ·rw[ae,ae,aK];omega
   ·rw[bJ,j,aW,aW];rfl
  rintro acc S' ⟨rfl,rfl⟩;rw[ae,bR];refine⟨trivial,O.map (meG one),rfl,λout ond J=>⟨?_,λopw=>⟨_,rfl,?_⟩⟩⟩
  ·have:=ond.length_le_of_subset λt d=>(J t).mp d
   rw[ae] at this;omega
  refine aZ0 (λi Γ S2=>∃x4 x5:Option D,Γ=[some (.tup (G.map tupS)),some (.int ((k+1:Nat):Int)),some (tupS one),some (.tup (O.map tupS)),x4,x5]/\S2=S'/\∀c∈out.take i,¬ Ap (wor (lkC O c) (wo one c)) k) ⟨_,_,rfl,rfl,by simp⟩ ?_ ?_
  ·rintro i x Γ S2 N j ⟨x4,x5,rfl,rfl,U⟩ hN;rw[aQ,bh] at j;obtain⟨c,j,rfl⟩:=j;obtain⟨o,hoO,ec⟩:=aV.mp ((J c).mp (ak j));have c6:c.length<=6:=by rw[<- ec];exact Nat.le_trans (aM _ _) o6
   have sc:Srt c:=by rw[<- ec];exact(es one ho).filter _
   refine⟨trivial,O,c,rfl,by omega,by omega,λt d=>by have:=(Oe t d).2;omega,?_⟩
   have ll:(lkC O c).length<=14:=by
    unfold lkC;rw[(aXk _).length_eq,ae];exact Nat.le_trans (aM _ _) Ol
   have le:∀t∈lkC O c,∃o∈O,wo o c=t:=λt d=>by
    unfold lkC at d;rw[bX6,aV] at d;obtain⟨o,h,e⟩:=d;exact⟨o,(az.mp h).1,e⟩
   have wm:∀{L:List (List Str)}{w t:List Str},t∈wor L w->t∈L:=λh=>(az.mp h).1;refine⟨Str,inferInstance,strE,one,c,tupS one,tupS c,rfl,by decide,.inl rfl,.inl rfl,by omega,lkC O c,wo one c,rfl,by omega,Nat.le_trans (aM _ _) (by omega),?_⟩
   refine⟨wor (lkC O c) (wo one c),k,?_,by omega,Nat.le_trans (aM _ _) ll,(eJ0 On λt d=>(Oe t d).1).filter _,λt d=>?_,?_,λb hb=>?_⟩
   ·show [D.tup _,D.int (((k+1:Nat):Int)-1)]=_;rw[show(((k+1:Nat):Int)-1)=(k:Int) by omega]
   ·obtain⟨o,h1,rfl⟩:=le t (wm d);exact⟨(Oe o h1).1.nodup.filter _,Nat.le_trans (aM _ _) (by have:=(Oe o h1).2;omega)⟩
   ·refine Nat.le_trans (aJl (N:=nms O) λt d x j=>?_) (by omega)
    obtain⟨o,h1,rfl⟩:=le t (wm d);exact mem_nms.mpr ⟨o,h1,(mem_wo.mp j).1⟩
   ·cases b with
    |true=>exact tq true ⟨λ_=>⟨o,hoO,by rw[ec];exact hb.mp rfl⟩,λ_=>rfl⟩
    |false =>
     refine hN _ _ ⟨_,_,rfl,rfl,λc' Z=>?_⟩;rw[bJ,j] at Z;rcases aJ.mp Z with h|h
     ·exact U c' h
     ·rw[aG.mp h];exact λz=>by have:=hb.mpr z;cases this
  ·rintro Γ S2 ⟨x4,x5,rfl,rfl,U⟩;rw[ae,bR] at U;refine⟨trivial,tq false ⟨(λz=>by cases z),λ⟨o,h1,h2⟩=>?_⟩⟩
   exact absurd h2 (U _ ((J _).mpr (aV.mpr ⟨o,h1,rfl⟩)))
end
abbrev s_next_level:Stmt:=top 13
theorem sc_next_level:FnScope ["sets", "many", "cores", "left"] ["sets", "many"] (aQ5 s_next_level):=fsc
def aJ9:SpD:=λds S Q=>∃(ts:List (List Str)) (m:Nat),ds=[.tup (ts.map tupS),.int m]/\2<=m/\m<=7/\ts.length<=14/\SrtT ts/\(∀t∈ts,Srt t/\t.length<=6)/\(nms ts).length<=12/\∀out,SrtT out->(∀r,r∈out↔(∃s∈ch ts m,coG s=some r)\/(r∈ts/\¬ ∃s∈ch ts m,r∈s/\(coG s).isSome=true))->Q (.tup (out.map tupS)) S
section
variable{P:aD}{w:aR}{K:ax}{mg:Str->Option ad}{base:bj}{pt cc:Addr}
theorem bX9(T:Tx K mg "next_level" s_next_level)(B:Bs mg)(d_cores_of_two:Df P w K mg base 11 "cores_of_two" ["sets"] (spU K aXg))(d_so_many_apart:Df P w K mg base 11 "so_many_apart" ["sets", "many"] (spU K aZd))(d_link_of:Df P w K mg base 11 "link_of" ["sets", "row"] (spU K aJm))(d_in_flower:Df P w K mg base 11 "in_flower" ["sets", "many", "one"] (spU K aJq)):Df P w K mg base 12 "next_level" ["sets", "many"] (spU K aJ9):=by
 refine aX1 T sc_next_level (λF=>F.binds λ_ _ _ _ _ _=>us2 λ_ _=>rfl) ?_ λf cdv A outer s H E G=>⟨_,(aQ2 (aXa (fZp G (dv 1) aQ6) (aQ3 (aQi (dv 0))) aQu)
  (aQ2 (aJj (i:=2) rfl (aY rfl) (N':=["core", "sets", "many"]) (oc:=none) (b:=false) [0] [] rfl sc_next_level.nd (λ_ _ _=>aQe ..) (.own (.cap (i:=0) rfl (by decide +kernel) (.cap (i:=1) rfl (by decide +kernel) .nil))) (aQh rfl) (aQz (aQ4 d_cores_of_two G rfl (aQ0 (dv 0) aQ1))) (cg_name (i:=0)) (λ_ _ _ _ _=>aQb (i:=0) (nd_ ["core", "sets", "many"]) rfl (aY rfl) (.inr rfl)) (λ_ _ _ _ _=>aQv (by exact(aZl (aQ4 d_so_many_apart G rfl (aQ0 (aQ4 d_link_of G rfl (aQ0 (dv 1) (aQ0 (dv 0) aQ1))) (aQ0 (dv 2) aQ1)))))) aQl (λ_ _ _ _ _ _=>aQk rfl (by exact PD.o (dv 0))))
  (aQ2 (aJj (i:=3) rfl (aY rfl) (N':=["one", "sets", "many"]) (oc:=none) (b:=false) [0] [] rfl sc_next_level.nd (λ_ _ _=>aQe ..) (.own (.cap (i:=0) rfl (by decide +kernel) (.cap (i:=1) rfl (by decide +kernel) .nil))) (aQh rfl) (aQz (dv 0)) (cg_name (i:=0)) (λ_ _ _ _ _=>aQb (i:=0) (nd_ ["one", "sets", "many"]) rfl (aY rfl) (.inr rfl)) (λ_ _ _ _ _=>aQv (by exact(bQi (aZl (aQ4 d_in_flower G rfl (aQ0 (dv 1) (aQ0 (dv 2) (aQ0 (dv 0) aQ1)))))))) aQl (λ_ _ _ _ _ _=>aQk rfl (by exact PD.o (dv 0))))
  (aQ3 (aQi (aZs rfl B.tuple (aQ0 (bQn (b:=false) G rfl B.sorted rfl B.set (aQw (k:=false) (dv 2) (dv 3))) aQ1))))))),?_⟩
 ·rintro ds S Q ⟨j,m,rfl,_⟩;rfl
 ·rintro ds S Q ⟨j,m,rfl,Z,m7,D,hs,he,Y,q⟩;have nd:=hs.nodup;have es:=λt d=>(he t d).1;refine⟨_,rfl,ite2 (λc1=>absurd (of_decide_eq_true c1) (by omega)) λ_=>?_⟩
  refine⟨j,rfl,D,λt d=>by have:=(he t d).2;omega,λcs so mem=>?_⟩
  have cl:cs.length<=91:=Nat.le_trans (so.nodup.length_le_of_subset λt d=>(mem t).mp d) (cZi j D)
  let pc:List Str->Bool:=λc=>(ch j m).any λs=>decide (coG s=some c)
  let pl:List Str->Bool:=λo=>(ch j m).any λs=>decide (o∈s)&&(coG s).isSome
  have O:∀c,pc c=true↔∃s∈ch j m,coG s=some c:=λc=>by simp[pc]
  have L:∀o,pl o=true↔∃s∈ch j m,o∈s/\(coG s).isSome=true:=λo=>by simp[pl]
  refine⟨_,rfl,aQr (p:=pc) (f:=tupS) (λc hc Q q=>?_) (λc hc _ Q q=>q) (aQd (by show 0+cs.length<=_;omega)) ?_⟩
  ·have hm:=(mem c).mp hc;have c6:=dQh (n:=6) (λt d=>(he t d).2) hm;have sc:=(eXw hs es hm).1;refine⟨j,c,rfl,by omega,by omega,λt d=>by have:=(he t d).2;omega,lkC j c,m,rfl,by omega,?_,eJ0 nd es,λt d=>?_,?_,λb hb=>?_⟩
   ·unfold lkC;rw[(aXk _).length_eq,ae];exact Nat.le_trans (aM _ _) D
   ·unfold lkC at d;rw[bX6,aV] at d;obtain⟨o,h,rfl⟩:=d;have ho:=he o (az.mp h).1;exact⟨ho.1.nodup.filter _,Nat.le_trans (aM _ _) (by omega)⟩
   ·refine Nat.le_trans (aJl (N:=nms j) λt d x hx=>?_) (by omega)
    unfold lkC at d;rw[bX6,aV] at d;obtain⟨o,h,rfl⟩:=d;exact mem_nms.mpr ⟨o,(az.mp h).1,(mem_wo.mp hx).1⟩
   ·have e:b=pc c:=eR.mpr (hb.trans ((eJ1 nd es Z sc).trans (O c).symm));subst e;exact q
  rw[bN];refine⟨_,rfl,aQr (p:=λo=>!pl o) (f:=tupS) (λo ho Q q=>⟨j,m,o,rfl,Z,m7,D,hs,he,Y,ho,λb hb=>?_⟩) (λc hc _ Q q=>q) (aQd (by show 0+j.length<=_;omega)) ?_⟩
  ·have e:b=pl o:=eR.mpr (hb.trans (L o).symm);subst e;exact q
  rw[bN];have f1:=aM pc cs;have f2:=aM (λo=>!pl o) j;refine⟨_,_,rfl,rfl,aQd (by rw[ae,ae];omega),cs.filter pc++j.filter (λo=>!pl o),by show _=_;rw[aW],by rw[ar];omega,λout ond J U=>⟨_,rfl,aQj (q out U λr=>?_)⟩⟩
  rw[J,aJ,az,az,O];refine or_congr ⟨λh=>h.2,λh=>⟨?_,h⟩⟩ (and_congr_right λ_=>?_)
  ·obtain⟨s,h1,h2⟩:=h;exact(mem r).mpr (dXg nd es Z h1 h2)
  ·rw[<- L,dr,ie]
end
abbrev s_law_meet:Stmt:=top 22
theorem sc_law_meet:FnScope ["one", "other"] ["one", "other"] (aQ5 s_law_meet):=fsc
def bQu:SpD:=λds S Q=>∃a b:List Str,ds=[tupS a,tupS b]/\a.length<=9999/\Q (tupS (meG a b)) S
section
variable{P:aD}{w:aR}{K:ax}{mg:Str->Option ad}{base:bj}{pt cc:Addr}
theorem cQ7(T:Tx K mg "_law_meet" s_law_meet)(B:Bs mg):Df P w K mg base 1 "_law_meet" ["one", "other"] (spU K bQu):=by
 refine aX1 T sc_law_meet (λF=>F.binds λ_ _ _ _ _ _=>us2 λ_ _=>rfl) ?_ λf G A outer s H E j=>⟨_,(aQ3 (aQi (aZs rfl B.tuple (aQ0 (aZ8 (N':=["name", "other"]) (oc:=none) (b:=false) [0] [] rfl sc_law_meet.nd (λ_ _ _=>aQe ..) (.own (.cap (i:=1) rfl (by decide +kernel) .nil)) (aQh rfl) (aQz (dv 0)) (cg_name (i:=0)) (λ_ _ _ _ _=>aQb (i:=0) (nd_ ["name", "other"]) rfl (aY rfl) (.inr rfl)) (λ_ _ _ _ _=>aQv (by exact(eZp j (dv 0) (dv 1)))) aQl (λ_ _ _ _ _ _=>aQk rfl (by exact PD.o (dv 0)))) aQ1)))),?_⟩
 ·rintro ds S Q ⟨one,row,rfl,_⟩;rfl
 ·rintro ds S Q ⟨one,row,rfl,hl,q⟩;exact⟨one.map D.str,rfl,aQr (p:=λn=>decide (n∈row)) (f:=D.str) (λx d Q q=>in_t (neg:=false) (E:=strE) (by decide) rfl q) (λx d _ Q q=>q) (aQd (by show 0+one.length<=_;omega)) ⟨_,rfl,aQj q⟩⟩
end
def cr71(ts:List (List Str))(r:List Nat):List Str:=meG (ts.getD (r.getD 0 0) []) (ts.getD (r.getD 1 0) [])
def tk71(ts:List (List Str))(c:List Str)(r:List Nat):List Str:=r.flatMap λi=>wo (ts.getD i []) c
def okC(ts:List (List Str))(c:List Str)(r:List Nat):Bool:=(r.all λi=>has (ts.getD i []) c)&&decide (tk71 ts c r).Nodup
def okN(ts:List (List Str))(r:List Nat):Bool:=okC ts (cr71 ts r) r
def itC(ts:List (List Str))(c:List Str)(L:List (List Nat)):Nat->List (List Nat)
 |0=>L
 |t+1=>(itC ts c L t).flatMap λr=>(exN ts.length r).filter (okC ts c)
def itN(ts:List (List Str))(L:List (List Nat)):Nat->List (List Nat)
 |0=>L
 |t+1=>(itN ts L t).flatMap λr=>(exN ts.length r).filter (okN ts)
theorem dJy{ts:List (List Str)}{r l:List Nat}(h:2<=r.length):cr71 ts (r++l)=cr71 ts r:=by
 match r,h with
 |a::b::r,_=>rfl
theorem it_C{ts:List (List Str)}{c:List Str}{L:List (List Nat)}(hL:∀r∈L,2<=r.length/\cr71 ts r=c):∀t,itC ts c L t=itN ts L t/\∀r∈itC ts c L t,2<=r.length/\cr71 ts r=c
 |0=>⟨rfl,hL⟩
 |t+1=>by
  obtain⟨e,h⟩:=it_C hL t;have key:∀r∈itC ts c L t,∀x∈exN ts.length r,2<=x.length/\cr71 ts x=c:=λr i x d=>by
   obtain⟨o,_,rfl⟩:=aV.mp d;obtain⟨h1,h2⟩:=h r i;exact⟨by rw[ar];omega,by rw[dJy h1];exact h2⟩
  refine⟨?_,λx d=>?_⟩
  ·show(itC ts c L t).flatMap _=(itN ts L t).flatMap _;rw[<- e];refine aZo λr i=>gU λx d=>?_;unfold okN;rw[(key r i x d).2]
  ·obtain⟨r,i,d⟩:=fh.mp d;exact key r i x (az.mp d).1
theorem bJa(ts:List (List Str))(L M:List (List Nat)):∀t,itN ts (L++M) t=itN ts L t++itN ts M t
 |0=>rfl
 |t+1=>by show(itN ts (L++M) t).flatMap _=_;rw[bJa ts L M t,dP];rfl
theorem dJz(ts:List (List Str)):∀t,itN ts [] t=[]
 |0=>rfl
 |t+1=>by show(itN ts [] t).flatMap _=_;rw[dJz ts t];rfl
theorem dQk(ts:List (List Str))(t:Nat):∀L:List (List Nat),(L.flatMap λp=>itN ts [p] t)=itN ts L t
 |[]=>(dJz ts t).symm
 |p::L=>by rw[cU,dQk ts t L];exact(bJa ts [p] L t).symm
def fl71(ts:List (List Str))(m:Nat):List (List Nat):=(ch (aI ts.length) 2).flatMap λp=>itC ts (cr71 ts p) [p] (m-2)
theorem eJ5{n:Nat}{s:List Nat}(h:s≠[]):ext (λa b=>decide (a<b)) 0 (aI n) s=exN n s:=by
 unfold ext exN bg;rw[if_neg h,aJp]
theorem fXz(a b:List Str):has a (meG a b)=true/\has b (meG a b)=true:=⟨has_iff.mpr λx d=>(mem_me.mp d).1,has_iff.mpr λx d=>(mem_me.mp d).2⟩
theorem dQl{ts:List (List Str)}(nd:∀t∈ts,t.Nodup)(i j:Nat):okN ts [i,j]=true:=by
 have d:∀i,(ts.getD i []).Nodup:=λi=>by
  rw[ai];cases h:ts[i]? with
  |none=>exact fL
  |some t=>exact nd t (ak h)
 show(_&&_)=true;have D:=fXz (ts.getD i []) (ts.getD j []);rw[aL];refine⟨?_,decide_eq_true ?_⟩
 ·show(has (ts.getD i []) (meG (ts.getD i []) (ts.getD j []))&&(has (ts.getD j []) (meG (ts.getD i []) (ts.getD j []))&&true))=true;rw[D.1,D.2];rfl
 ·show(wo (ts.getD i []) _++(wo (ts.getD j []) _++[])).Nodup;rw[bD];refine eg.mpr ⟨(d i).sublist fc,(d j).sublist fc,λx B y G e=>?_⟩;subst e;exact(mem_wo.mp B).2 (mem_me.mpr ⟨(mem_wo.mp B).1,(mem_wo.mp G).1⟩)
theorem eJ6{ts:List (List Str)}{s:List Nat}{o:Nat}(h2:2<=s.length)(h:okN ts (s++[o])=true):okN ts s=true:=by
 unfold okN okC at h ⊢;rw[dJy h2,aL,decide_eq_true_eq] at h;rw[aL,decide_eq_true_eq];refine⟨?_,h.2.sublist ?_⟩
 ·rw[List.all_append,aL] at h;exact h.1.1
 ·unfold tk71;rw[dP];exact jx _ _
theorem cQ8{ts:List (List Str)}(nd:∀t∈ts,t.Nodup){m:Nat}(m2:2<=m):fl71 ts m=(ch (aI ts.length) m).filter (okN ts):=by
 obtain⟨j,rfl⟩:∃j,m=j+2:=⟨m-2,by omega⟩
 unfold fl71;have e:(ch (aI ts.length) 2).flatMap (λp=>itC ts (cr71 ts p) [p] (j + 2 - 2))=(ch (aI ts.length) 2).flatMap λp=>itN ts [p] j:=aZo λp G=>(it_C (λr d=>by
  rw[aG.mp d];exact⟨by rw[(aQo G).1];exact Nat.le_refl _,rfl⟩) j).1
 rw[e,dQk];have f:=bJ6 (lt:=λa b=>decide (a < b)) (z:=0) (ok:=okN ts) (sets:=aI ts.length) (cZd _) (λa=>by simp) (λs D=>by
  obtain⟨l,_⟩:=aQo D
  match s,l with
  |[a,b],_=>exact dQl nd a b) (λs o h2 _ h=>eJ6 h2 h) j
 rw[<- f];have gen:∀t,itN ts (ch (aI ts.length) 2) t=flw (λa b=>decide (a<b)) 0 (okN ts) (aI ts.length) t/\∀r∈itN ts (ch (aI ts.length) 2) t,r≠[]:=λt=>by
  induction t with
  |zero=>exact⟨rfl,λr d z=>by subst z;cases (aQo d).1⟩
  |succ t i =>
   refine⟨?_,λr d z=>?_⟩
   ·show(itN ts _ t).flatMap _=((flw _ _ _ _ t).flatMap _).filter _;rw[aZ9,<- i.1];exact aZo λr d=>by rw[eJ5 (i.2 r d)]
   ·obtain⟨x,_,B⟩:=fh.mp d;obtain⟨o,_,e⟩:=aV.mp (az.mp B).1;subst z;simp at e
 exact(gen j).1
theorem dQm(ts:List (List Str))(m:Nat):(ch (aI ts.length) m).map (λr=>r.map λi=>ts.getD i [])=ch ts m:=by
 rw[<- ch_map,dQe]
theorem eQ0{ts:List (List Str)}(nd:ts.Nodup)(ne:∀t∈ts,t.Nodup){m:Nat}(m2:2<=m){r:List Nat}(hr:r∈ch (aI ts.length) m):okN ts r=(coG (r.map λi=>ts.getD i [])).isSome/\(okN ts r=true->coG (r.map λi=>ts.getD i [])=some (cr71 ts r)):=by
 have hs:(r.map λi=>ts.getD i [])∈ch ts m:=by rw[<- dQm];exact aV.mpr ⟨r,hr,rfl⟩
 obtain⟨sl,ss⟩:=aQo hs;have snd:=ss.nodup nd;have U:∀o∈(r.map λi=>ts.getD i []),o.Nodup:=λo B=>ne o (ss.subset B);obtain⟨rl,_⟩:=aQo hr;obtain⟨a,b,r,rfl⟩:∃a b r',r=a::b::r':=by
  match r,(show 2<=r.length by omega) with
  |a::b::r,_=>exact⟨a,b,r,rfl⟩
 generalize Z:((a::b::r).map λi=>ts.getD i [])=s at *
 have d:s=ts.getD a []::ts.getD b []::r.map λi=>ts.getD i []:=Z.symm;have hc:cr71 ts (a::b::r)=meG (ts.getD a []) (ts.getD b []):=rfl;have j:s≠[]:=by rw[d];exact List.cons_ne_nil _ _
 have Y:naG s=(ts.getD a []).filter λn=>s.all λo=>decide (n∈o):=by rw[d];rfl
 have J:((a::b::r).all λi=>has (ts.getD i []) (cr71 ts (a::b::r)))=s.all λo=>has o (cr71 ts (a::b::r)):=by rw[<- Z,iI];rfl
 have L:(s.all λo=>has o (cr71 ts (a::b::r)))=true->naG s=cr71 ts (a::b::r):=λh=>by
  rw[Y,hc];refine gU λn hn=>?_;rw[eR,bB,decide_eq_true_eq];refine⟨λz=>of_decide_eq_true (z _ (by rw[d];exact am _ ao)),λz o B=>decide_eq_true ?_⟩
  exact has_iff.mp (bB.mp h o B) n (mem_me.mpr ⟨hn,z⟩)
 have G:∀c,naG s=c->lfG s=tk71 ts c (a::b::r):=λc e=>by
  unfold lfG tk71;rw[e,<- Z,ic]
  rfl
 have co:coG s=if (lfG s).Nodup then some (naG s) else none:=by
  unfold coG;rw[if_neg];rintro(z|z)
  ·omega
  ·exact z snd
 have iff:okN ts (a::b::r)=true↔coG s=some (cr71 ts (a::b::r)):=by
  unfold okN okC;rw[aL,decide_eq_true_eq,J,co];constructor
  ·rintro⟨h1,h2⟩;have e:=L h1;rw[if_pos (by rw[G _ e];exact h2),e]
  ·intro h
   by_cases z:(lfG s).Nodup
   ·rw[if_pos z] at h;have e:=aN h;refine⟨bB.mpr λo B=>has_iff.mpr λx D=>?_,by rw[<- G _ e];exact z⟩
    rw[<- e] at D;exact(aJ5 j).mp D o B
   ·rw[if_neg z] at h;cases h
 refine⟨?_,iff.mp⟩;cases h:okN ts (a::b::r) with
 |true=>rw[iff.mp h];rfl
 |false =>
  cases hk:coG s with
  |none=>rfl
  |some c =>
   have z:=hk;rw[co] at z
   by_cases O:(lfG s).Nodup
   ·rw[if_pos O] at z;have e:naG s=c:=aN z;have sun:=(cZc j U).mp O;have ec:(s.all λo=>has o (cr71 ts (a::b::r)))=true:=bB.mpr λo B=>has_iff.mpr λx D=>by
     rw[hc,mem_me] at D;rw[d] at sun B;exact(bb.mp sun).1 _ ao x D.1 D.2 o B
    have:=iff.mpr (by rw[hk,<- e,L ec])
    rw[h] at this;cases this
   ·rw[if_neg O] at z;cases z
theorem eJ7{ts:List (List Str)}(nd:ts.Nodup)(ne:∀t∈ts,t.Nodup){m:Nat}(m2:2<=m){s:List (List Str)}{c:List Str}:(s∈ch ts m/\coG s=some c)↔∃r∈fl71 ts m,cr71 ts r=c/\s=r.map λi=>ts.getD i []:=by
 rw[cQ8 ne m2];constructor
 ·rintro⟨j,B⟩;rw[<- dQm] at j;obtain⟨r,d,rfl⟩:=aV.mp j;obtain⟨h1,h2⟩:=eQ0 nd ne m2 d;have ok:okN ts r=true:=by rw[h1,B];rfl
  exact⟨r,az.mpr ⟨d,ok⟩,aN ((h2 ok).symm.trans B),rfl⟩
 ·rintro⟨r,d,rfl,rfl⟩;obtain⟨h1,h2⟩:=az.mp d;exact⟨by rw[<- dQm];exact aV.mpr ⟨r,h1,rfl⟩,(eQ0 nd ne m2 h1).2 h2⟩
theorem dXi(ts:List (List Str))(m:Nat):fl71 ts m=(aI ts.length).flatMap λi=>(b4 (i+1) (ts.length-(i+1))).flatMap λj=>itC ts (meG (ts.getD i []) (ts.getD j [])) [[i,j]] (m-2):=by
 unfold fl71;have d:ch (aI ts.length) 1=(aI ts.length).map λi=>[i]:=bJ4 _;rw[fXq,d,ic,List.flatMap_assoc];refine aZo λi _=>?_;show((b4 (bg [i]) (ts.length-bg [i])).map λo=>[i]++[o]).flatMap _=_;rw[ic]
 rfl
theorem aX7{α β:Type}{f:α->List β}{b:Nat}:∀{L:List α},(∀r∈L,(f r).length<=b)->(L.flatMap f).length<=L.length*b
 |[],_=>by simp
 |r::L,h=>by
  rw[cU,ar,aT,Nat.succ_mul]
  have:=aX7 (L:=L) λr d=>h r (am _ d)
  have:=h r ao
  omega
theorem dQn(n:Nat)(r:List Nat):(exN n r).length<=n:=by unfold exN;rw[ae,gz];omega
theorem dQo{ts:List (List Str)}{c:List Str}{L:List (List Nat)}(h:ts.length<=14):∀t,(itC ts c L t).length<=L.length*14^t
 |0=>by show L.length<=L.length*1;omega
 |t+1=>by
  have d:=dQo (c:=c) (L:=L) h t;have h2:=aX7 (f:=λr=>(exN ts.length r).filter (okC ts c)) (b:=14) (L:=itC ts c L t) λr _=>Nat.le_trans (aM _ _) (Nat.le_trans (dQn _ r) h);show((itC ts c L t).flatMap _).length<=_;have i:=Nat.mul_le_mul_right 14 d;rw[Nat.pow_succ,<- Nat.mul_assoc];exact Nat.le_trans h2 i
theorem fJ0{ts:List (List Str)}{c:List Str}{L:List (List Nat)}(hL:∀r∈L,okC ts c r=true/\r≠[]/\∀i∈r,i<ts.length):∀t,∀r∈itC ts c L t,okC ts c r=true/\r≠[]/\∀i∈r,i<ts.length
 |0=>hL
 |t+1=>λr j=>by
  obtain⟨x,d,h⟩:=fh.mp j;obtain⟨h1,h2⟩:=az.mp h;obtain⟨o,B,rfl⟩:=aV.mp h1;refine⟨h2,by simp,λi hi=>?_⟩
  rcases aJ.mp hi with z|z
  ·exact(fJ0 hL t x d).2.2 i z
  ·rw[aG.mp z]
   have:=List.mem_range'_1.mp B
   omega
theorem eQ1{ts:List (List Str)}{c:List Str}{L:List (List Nat)}{k:Nat}(hL:∀r∈L,r.length=k):∀t,∀r∈itC ts c L t,r.length=k+t
 |0=>hL
 |t+1=>λr i=>by
  obtain⟨x,d,h⟩:=fh.mp i;obtain⟨o,j,rfl⟩:=aV.mp (az.mp h).1;rw[ar,eQ1 hL t x d];rfl
theorem cZl(ts:List (List Str))(c:List Str)(r:List Nat)(o:Nat):tk71 ts c (r++[o])=tk71 ts c r++wo (ts.getD o []) c:=by
 unfold tk71;rw[dP];show _++(wo _ _++[])=_;rw[bD]
theorem eJ8{ts:List (List Str)}{c:List Str}{r:List Nat}{o:Nat}(h:okC ts c r=true)(nd:(ts.getD o []).Nodup):okC ts c (r++[o])=(has (ts.getD o []) c && !mts (tk71 ts c r) (wo (ts.getD o []) c)):=by
 unfold okC at h ⊢;rw[aL,decide_eq_true_eq] at h;rw[List.all_append,h.1,cZl,eY];show(has (ts.getD o []) c&&true&&_)=_;rw[Bool.and_true]
 congr 1
 cases e:mts (tk71 ts c r) (wo (ts.getD o []) c) with
 |true =>
  obtain⟨x,h1,h2⟩:=mts_iff.mp e;exact decide_eq_false λz=>(eg.mp z).2.2 x h2 x h1 rfl
 |false =>
  refine decide_eq_true (eg.mpr ⟨h.2,nd.sublist fc,λx i y d z=>?_⟩);subst z;rw[mts_iff.mpr ⟨x,d,i⟩] at e;cases e
theorem eJ9{t c:List Str}(ht:t.Nodup)(hc:c.Nodup):(wo t c).length+c.length=t.length↔has t c=true:=by
 have e:(wo t c).length+(meG t c).length=t.length:=by
  unfold wo meG;rw[<- iz,<- iz,List.length_eq_countP_add_countP (p:=λx=>decide (x∈c)) (l:=t)]
  have:(t.countP λd=>!decide (d∈c))=t.countP λa=>decide ¬(decide (a∈c)=true):=List.countP_congr λx _=>by simp
  omega
 have sub:meG t c⊆c:=λx i=>(mem_me.mp i).2;have nm:(meG t c).Nodup:=ht.filter _;constructor
 ·intro h;refine has_iff.mpr λx i=>?_;have hl:(meG t c).length=c.length:=by omega
  by_cases z:x∈meG t c
  ·exact(mem_me.mp z).1
  ·have:=(bS.mpr ⟨z,nm⟩).length_le_of_subset (l₂:=c) λy j=>by
    rcases aA.mp j with rfl|j
    ·exact i
    ·exact sub j
   rw[aT] at this;omega
 ·intro h;have h1:=nm.length_le_of_subset sub;have h2:=hc.length_le_of_subset (l₂:=meG t c) λx i=>mem_me.mpr ⟨has_iff.mp h x i,i⟩;omega
def cs71(ts:List (List Str)):List (List Str):=(ch (aI ts.length) 2).map (cr71 ts)
theorem dXj{ts:List (List Str)}{m:Nat}(ne:∀t∈ts,t.Nodup)(m2:2<=m){r:List Nat}(h:r∈fl71 ts m):cr71 ts r∈cs71 ts:=by
 obtain⟨p,i,d⟩:=fh.mp h;obtain⟨_,h⟩:=it_C (ts:=ts) (c:=cr71 ts p) (L:=[p]) (λr d=>by rw[aG.mp d];exact⟨by rw[(aQo i).1];exact Nat.le_refl _,rfl⟩) (m-2)
 exact aV.mpr ⟨p,i,(h r d).2.symm⟩
theorem eJa:∀n:Nat,n<=14->(ch (aI n) 2).length<=91:=by decide +kernel
theorem dXk{ts:List (List Str)}(h:ts.length<=14):(cs71 ts).length<=91:=by
 unfold cs71;rw[ae];exact eJa _ h
abbrev s_law_flowers:Stmt:=top 23
theorem sc_law_flowers:FnScope ["sets", "many", "found", "first", "one", "second", "core", "rows", "turn", "longer", "row", "taken", "more", "left", "good"] ["sets", "many"] (aQ5 s_law_flowers):=fsc
def rowD(ts:List (List Str))(r:List Nat):D:=.tup [.lst (r.map natE.e),tupS (cr71 ts r)]
def aXq:SpD:=λds S Q=>∃(ts:List (List Str)) (m:Nat),ds=[.tup (ts.map tupS),.int m]/\ts.length<=14/\2<=m/\m<=6/\ts.Nodup/\(∀t∈ts,Srt t/\t.length<=6)/\Q (.lst ((fl71 ts m).map (rowD ts))) S
section
variable{P:aD}{w:aR}{K:ax}{mg:Str->Option ad}{base:bj}{pt cc:Addr}
theorem bQz(T:Tx K mg "_law_flowers" s_law_flowers)(B:Bs mg)(d_law_meet:Df P w K mg base 1 "_law_meet" ["one", "other"] (spU K bQu)):Df P w K mg base 2 "_law_flowers" ["sets", "many"] (spU K aXq):=by
 refine aX1 T sc_law_flowers (λF=>F.binds λ_ _ _ _ _ _=>us2 λ_ _=>rfl) ?_ λf cdv A outer s H E hr=>⟨_,(aQ2 (aQf (i:=2) sc_law_flowers.nd rfl (aY rfl) (aZr (b:=true) aQ1))
  (aQ2 (aZj cb rfl (dJj rfl B.enumerate (aQ0 (dv 0) aQ1)) (cQy rfl (aZm (aQq (i:=3) sc_law_flowers.nd rfl (aY rfl)) (aZm (aQq (i:=4) sc_law_flowers.nd rfl (aY rfl)) bZv))) (aQ3 (aZj cb rfl (bXu rfl B.range (aQ0 (aQw (k:=false) (dv 3) aQ6) (aQ0 (aXn rfl B.len (aQ0 (dv 0) aQ1)) aQ1))) (aQq (i:=5) sc_law_flowers.nd rfl (aY rfl)) (aQ2 (aQf (i:=6) sc_law_flowers.nd rfl (h9 rfl) (aQ4 d_law_meet hr rfl (aQ0 (dv 4) (aQ0 (e_ix (dv 0) (dv 5)) aQ1))))
  (aQ2 (aQf (i:=7) sc_law_flowers.nd rfl (aY rfl) (aZr (b:=true) (aQ0 (aJ0 (aQ0 (aZr (b:=false) (aQ0 (dv 3) (aQ0 (dv 5) aQ1))) (aQ0 (aZ8 (N':=["name", "core"]) (oc:=none) (b:=false) [0] [] rfl sc_law_flowers.nd (λ_ _ _=>aQe ..) (.own (.cap (i:=6) rfl (by decide +kernel) .nil)) (aQh rfl) (aQz (aQw (k:=false) (dv 4) (e_ix (dv 0) (dv 5)))) (cg_name (i:=0)) (λ_ _ _ _ _=>aQb (i:=0) (nd_ ["name", "core"]) rfl (aY rfl) (.inr rfl)) (λ_ _ _ _ _=>aQv (by exact(cJj hr (dv 0) (dv 1)))) aQl (λ_ _ _ _ _ _=>aQk rfl (by exact PD.o (dv 0)))) aQ1))) aQ1)))
  (aQ2 (aZj cb rfl (aZy rfl B.range (aQ0 (dZp (dv 1) aQ6) aQ1)) (aQq (i:=8) sc_law_flowers.nd rfl (aY rfl)) (aQ2 (aQf (i:=9) sc_law_flowers.nd rfl (aY rfl) (aZr (b:=true) aQ1))
  (aQ2 (aZj cb rfl (aQz (dv 7)) (cQy rfl (aZm (aQq (i:=10) sc_law_flowers.nd rfl (aY rfl)) (aZm (aQq (i:=11) sc_law_flowers.nd rfl (h9 rfl)) bZv))) (aQ3 (aZj cb rfl (bXu rfl B.range (aQ0 (aQw (k:=false) (e_ix (dv 10) (gQ1 aQ6)) aQ6) (aQ0 (aXn rfl B.len (aQ0 (dv 0) aQ1)) aQ1))) (aQq (i:=12) sc_law_flowers.nd rfl (aY rfl)) (aQ2 (aJj (i:=13) rfl (aY rfl) (N':=["name", "core"]) (oc:=none) (b:=false) [0] [] rfl sc_law_flowers.nd (λ_ _ _=>aQe ..) (.own (.cap (i:=6) rfl (by decide +kernel) .nil)) (aQh rfl) (aQz (e_ix (dv 0) (dv 12))) (cg_name (i:=0)) (λ_ _ _ _ _=>aQb (i:=0) (nd_ ["name", "core"]) rfl (aY rfl) (.inr rfl)) (λ_ _ _ _ _=>aQv (by exact(cJj hr (dv 0) (dv 1)))) aQl (λ_ _ _ _ _ _=>aQk rfl (by exact PD.o (dv 0))))
  (aQ2 (aQf (i:=14) sc_law_flowers.nd rfl (aY rfl) (e_eq hr (aQw (k:=false) (aXn rfl B.len (aQ0 (dv 13) aQ1)) (aXn rfl B.len (aQ0 (dv 6) aQ1))) (aXn rfl B.len (aQ0 (e_ix (dv 0) (dv 12)) aQ1))))
  (aQ3 (aXa (PWD.pt (dJe (aZl (dv 14)) (cJm (bZu hr (aZ8 (N':=["name", "taken"]) (oc:=none) (b:=false) [0] [] rfl sc_law_flowers.nd (λ_ _ _=>aQe ..) (.own (.cap (i:=11) rfl (by decide +kernel) .nil)) (aQh rfl) (aQz (dv 13)) (cg_name (i:=0)) (λ_ _ _ _ _=>aQb (i:=0) (nd_ ["name", "taken"]) rfl (aY rfl) (.inr rfl)) (λ_ _ _ _ _=>aQv (by exact(eZp hr (dv 0) (dv 1)))) aQl (λ_ _ _ _ _ _=>aQk rfl (by exact PD.o (dv 0)))) (aZr (b:=false) aQ1))))) (aQ3 (bQj (bZy (dv 9) (aQ0 (aJ0 (aQ0 (aQw (k:=false) (dv 10) (aZr (b:=false) (aQ0 (dv 12) aQ1))) (aQ0 (aQw (k:=false) (dv 11) (dv 13)) aQ1))) aQ1)))) aQu)))))))
  (aQ3 (aQf (i:=7) sc_law_flowers.nd rfl (aY rfl) (dv 9))))))
  (aQ3 (bQj (cZ5 (dv 2) (aQ0 (aZ8 (N':=["row", "taken", "core"]) (oc:=none) (b:=true) [0,1] [] rfl sc_law_flowers.nd (λ_ _ _=>aQe ..) (.own (.own (.cap (i:=6) rfl (by decide +kernel) .nil))) (aQh rfl) (aQz (dv 7)) (bQl (i:=0) (j:=1)) (λ_ _ _ _ _=>bZ0 rfl (aZ5 (aQb (i:=0) (nd_ ["row", "taken", "core"]) rfl (aY rfl) (.inr rfl)) (aZ5 (aQb (i:=1) (nd_ ["row", "taken", "core"]) rfl (aY rfl) (.inr rfl)) aJb))) (λ_ _ _ _ _=>aZb) aQl (λ_ _ _ _ _ _=>aQk rfl (by exact PD.o (aJ0 (aQ0 (dv 0) (aQ0 (dv 2) aQ1)))))) aQ1))))))))))
  (aQ3 (aQi (dv 2))))),?_⟩
 ·rintro ds S Q ⟨ts,m,rfl,_⟩;rfl
 ·rintro ds S Q ⟨ts,m,rfl,hn,m2,m6,nd,he,q⟩;obtain⟨n,en⟩:∃n,n=ts.length:=⟨_,rfl⟩;have gt:∀i,i<n->atI (ts.map tupS) ((i:Nat):Int)=some (tupS (ts.getD i [])):=λi hi=>bQ5 (by rw[aQ,ag (en▸hi),ai,ag (en▸hi)];rfl)
  have gs:∀i,Srt (ts.getD i [])/\(ts.getD i []).length<=6:=λi=>by
   rw[ai];cases h:ts[i]? with
   |none=>exact⟨.nil,by decide⟩
   |some t=>exact he t (ak h)
  have el:(ts.map tupS).length=n:=by rw[ae,en]
  rw[dXi,<- en] at q;rw[<- en] at hn;obtain⟨G,hG⟩:∃G:Nat->Nat->List (List Nat),G=λi j=>itC ts (meG (ts.getD i []) (ts.getD j [])) [[i,j]] (m-2):=⟨_,rfl⟩;have Gl:∀i j,(G i j).length<=38416:=λi j=>by
   rw[hG];refine Nat.le_trans (dQo (by omega) (m-2)) ?_
   have:=Nat.pow_le_pow_right (n:=14) (by decide) (show m-2<=4 by omega)
   show 1*_<=_;omega
  have q:Q (.lst (((aI n).flatMap λi=>(b4 (i+1) (n-(i+1))).flatMap λj=>G i j).map (rowD ts))) S:=by rw[hG];exact q
  refine⟨aQd (by decide),λfp hfp=>?_⟩
  refine aZ0 (λi Γ S'=>∃x3 x4 x5 x6 x7 x8 x9 Z Y U O J:Option D,Γ=[some (.tup (ts.map tupS)),some (.int (m:Nat)),some (.ref fp),x3,x4,x5,x6,x7,x8,x9,Z,Y,U,O,J]/\S' fp=some (.lst (((aI i).flatMap λi=>(b4 (i+1) (n-(i+1))).flatMap λj=>G i j).map (rowD ts)))/\∀b o,S b=some o->S' b=some o) ⟨_,_,_,_,_,_,_,_,_,_,_,_,rfl,aQa,λb o e=>by rw[aQ7 (by rintro rfl;rw[hfp] at e;cases e)];exact e⟩ ?_ ?_
  ·rintro i x Γ S1 N hx ⟨x3,x4,x5,x6,x7,x8,x9,Z,Y,U,O,J,rfl,h1,hs1⟩ hN;obtain⟨e,hy,rfl⟩:=aX0 _ _ _ _ hx;rw[aQ,bh] at hy;obtain⟨t,ht,rfl⟩:=hy;have hi:i<n:=by rw[en];exact(ay.mp ht).1
   have et:t=ts.getD i []:=by rw[ai,ht];rfl
   subst et;rw[j0];refine⟨trivial,rfl,rfl,?_⟩;have ec:(((ts.map tupS).length:Int)-(((i:Nat):Int)+1)).toNat=n-(i+1):=by rw[el];omega
   refine⟨_,rfl,⟨by omega,by omega,by omega,by rw[el];omega⟩,?_⟩
   rw[ec];refine aZ0 (λk Γ S'=>∃x5 x6 x7 x8 x9 Z Y U O J:Option D,Γ=[some (.tup (ts.map tupS)),some (.int (m:Nat)),some (.ref fp),some (.int (i:Nat)),some (tupS (ts.getD i [])),x5,x6,x7,x8,x9,Z,Y,U,O,J]/\S' fp=some (.lst ((((aI i).flatMap λi=>(b4 (i+1) (n-(i+1))).flatMap λj=>G i j)++(b4 (i+1) k).flatMap λj=>G i j).map (rowD ts)))/\∀b o,S b=some o->S' b=some o) ⟨_,_,_,_,_,_,_,_,_,_,rfl,by simpa using h1,hs1⟩ ?_ ?_
   ·rintro k x Γ S2 N2 hx ⟨x5,x6,x7,x8,x9,Z,Y,U,O,J,rfl,h2,hs2⟩ hN2;obtain⟨hk,rfl⟩:=aJ1 _ _ k x hx;have ej:(((i:Nat):Int)+1)+(k:Nat)=((i+1+k:Nat):Int):=by omega
    rw[ej];have hj:i+1+k<n:=by omega
    have er:b4 (i+1) (k+1)=b4 (i+1) k++[i+1+k]:=by rw[ja];simp
    rw[er] at hN2;generalize i+1+k=j at hj hN2;refine⟨trivial,_,_,rfl,gt j hj,ts.getD i [],ts.getD j [],rfl,by have:=(gs i).2;omega,?_⟩
    have hs0:=(gs i);have ti6:=(gs i).2;have tj6:=(gs j).2;have sc:Srt (meG (ts.getD i []) (ts.getD j [])):=(gs i).1.filter _;have c6:(meG (ts.getD i []) (ts.getD j [])).length<=6:=Nat.le_trans (aM _ _) ti6;have hok:∀t,∀r∈itC ts (meG (ts.getD i []) (ts.getD j [])) [[i,j]] t,okC ts (meG (ts.getD i []) (ts.getD j [])) r=true/\r≠[]/\∀i∈r,i<ts.length:=fJ0 λr hr=>by
     rw[aG.mp hr];refine⟨dQl (λt ht=>(he t ht).1.nodup) i j,by simp,λx hx=>?_⟩
     rw[<- en];simp only[aA,c9,or_false] at hx;rcases hx with rfl|rfl <;> assumption
    have htk:((ts.getD i [])++(ts.getD j [])).filter (λx=>!decide (x∈meG (ts.getD i []) (ts.getD j [])))=tk71 ts (meG (ts.getD i []) (ts.getD j [])) [i,j]:=by
     rw[fx];show _=wo _ _++(wo _ _++[]);rw[bD];rfl
    have hilen:∀t,t<=4->(itC ts (meG (ts.getD i []) (ts.getD j [])) [[i,j]] t).length<=38416:=λt h4=>by
     refine Nat.le_trans (dQo (by omega) t) ?_
     have:=Nat.pow_le_pow_right (n:=14) (by decide) h4
     show 1*_<=_;omega
    have hGij:G i j=itC ts (meG (ts.getD i []) (ts.getD j [])) [[i,j]] (m-2):=by rw[hG]
    have hcr:∀r∈itC ts (meG (ts.getD i []) (ts.getD j [])) [[i,j]] (m-2),cr71 ts r=meG (ts.getD i []) (ts.getD j []):=λr hr=>((it_C (λr hr=>by rw[aG.mp hr];exact⟨Nat.le_refl 2,rfl⟩) (m-2)).2 r hr).2
    generalize meG (ts.getD i []) (ts.getD j [])=c at sc c6 hok htk hilen hGij hcr;refine⟨aQd (by show 2<=9999;decide),_,_,rfl,gt j hj,aQd (by rw[ae,ae];omega),_,rfl,?_⟩
    rw[<- aW];refine aQr (p:=λx=>!decide (x∈c)) (f:=D.str) (λx hx Q q=>in_t (neg:=true) (E:=strE) (by decide) rfl q) (λx hx _ Q q=>q) (aQd (by rw[ar];show 0+_<=_;omega)) ?_
    rw[htk,bN];refine⟨aQd (by show 2<=9999;decide),aQd (by show 1<=9999;decide),λrp hrp=>⟨⟨by omega,by omega⟩,?_⟩⟩
    have em:(((m:Nat):Int)-2).toNat=m-2:=by omega
    rw[em];have hrf:rp≠fp:=by rintro rfl;rw[hrp] at h2;cases h2
    have hrS:S rp=none:=by
     cases e:S rp with
     |none=>rfl
     |some o=>rw[hs2 _ _ e] at hrp;cases hrp
    obtain⟨gW,erw⟩:∃gW:List Nat->D,gW=λr=>.tup [.lst (r.map natE.e),.lst ((tk71 ts c r).map D.str)]:=⟨_,rfl⟩;have hst:(List.map gW [[i,j]])=[D.tup [D.lst [D.int (i:Nat),D.int (j:Nat)],D.lst ((tk71 ts c [i,j]).map D.str)]]:=by rw[erw];rfl
    rw[<- hst];refine aZ0 (λt Γ S'=>∃(rp:Addr) (x8 x9 Z Y U O J:Option D),Γ=[some (.tup (ts.map tupS)),some (.int (m:Nat)),some (.ref fp),some (.int (i:Nat)),some (tupS (ts.getD i [])),some (.int (j:Nat)),some (tupS c),some (.ref rp),x8,x9,Z,Y,U,O,J]/\S2 rp=none/\S' rp=some (.lst ((itC ts c [[i,j]] t).map gW))/\∀b o,S2 b=some o->S' b=some o) ⟨rp,_,_,_,_,_,_,_,rfl,hrp,aQa,λb o e=>by rw[aQ7 (by rintro rfl;rw[hrp] at e;cases e)];exact e⟩ ?_ ?_
    ·clear hrp hrf hrS rp hst;rintro t x Γ S3 N3 hx ⟨rp,x8,x9,Z,Y,U,O,J,rfl,hrp,h3,hs3⟩ hN3;obtain⟨ht,rfl⟩:=bXx hx;refine⟨trivial,aQd (by decide),λlp hlp=>?_⟩
     have hlr:lp≠rp:=by rintro rfl;rw[hlp] at h3;cases h3
     have hlS:S2 lp=none:=by
      cases e:S2 lp with
      |none=>rfl
      |some o=>rw[hs3 _ _ e] at hlp;cases hlp
     have hR:=hok t;have hRr:=eQ1 (ts:=ts) (c:=c) (L:=[[i,j]]) (k:=2) (λr hr=>by rw[aG.mp hr];rfl) t
     have hRl:=hilen t (by omega)
     have hnx:itC ts c [[i,j]] (t+1)=(itC ts c [[i,j]] t).flatMap λr=>(exN n r).filter (okC ts c):=by rw[en];rfl
     rw[hnx] at hN3;clear hnx;generalize itC ts c [[i,j]] t=R at h3 hR hRl hN3 hRr;refine⟨_,(aQ7 (cv hlr)).trans h3,?_⟩;refine aZ0 (λu Γ S'=>∃(Z Y U O J:Option D),Γ=[some (.tup (ts.map tupS)),some (.int (m:Nat)),some (.ref fp),some (.int (i:Nat)),some (tupS (ts.getD i [])),some (.int (j:Nat)),some (tupS c),some (.ref rp),some (.int (t:Nat)),some (.ref lp),Z,Y,U,O,J]/\S' rp=some (.lst (R.map gW))/\S' lp=some (.lst (((R.take u).flatMap λr=>(exN n r).filter (okC ts c)).map gW))/\∀b o,S2 b=some o->S' b=some o)
      ⟨_,_,_,_,_,rfl,(aQ7 (cv hlr)).trans h3,aQa,λb o e=>by rw[aQ7 (by rintro rfl;rw[hlS] at e;cases e)];exact hs3 b o e⟩ ?_ ?_
     ·rintro u x Γ S4 N4 hx ⟨Z,Y,U,O,J,rfl,h4,h5,hs4⟩ hN4;rw[aQ,bh] at hx;obtain⟨r,hr,rfl⟩:=hx;obtain⟨ok,rne,rlt⟩:=hR r (ak hr);have hu:=(ay.mp hr).1;have tk:R.take (u+1)=R.take u++[r]:=by rw[bJ,hr];rfl
      rw[tk,dP,gV] at hN4;have hacc:((R.take u).flatMap λr=>(exN n r).filter (okC ts c)).length<=38416*14:=by
       refine Nat.le_trans (aX7 (b:=14) λr _=>Nat.le_trans (aM _ _) (Nat.le_trans (dQn _ r) hn)) ?_;rw[aK];exact Nat.mul_le_mul_right 14 (by omega)
      generalize (R.take u).flatMap (λr=>(exN n r).filter (okC ts c))=A0 at h5 hN4 hacc;have er:gW r=.tup [.lst (r.map natE.e),.lst ((tk71 ts c r).map D.str)]:=by rw[erw]
      rw[er];refine⟨h4,rfl,rfl,?_⟩;have rlast:r.getLastD 0∈r:=aZn rne;have rl:=rlt _ rlast;rw[<- en] at rl;have ebg:bg r=r.getLastD 0+1:=by unfold bg;rw[if_neg rne]
      have lt:atI (r.map natE.e) (-1)=some (natE.e (r.getLastD 0)):=by rw[dQ7,eXp rne 0];rfl
      have er2:gW r=.tup [.lst (r.map natE.e),.lst ((tk71 ts c r).map D.str)]:=by rw[erw]
      have eci:(((ts.map tupS).length:Int)-(((r.getLastD 0:Nat):Int)+1)).toNat=n-bg r:=by rw[el];omega
      have hex:exN n r=(b4 (bg r) (n-bg r)).map λo=>r++[o]:=rfl;refine⟨_,_,rfl,lt,_,rfl,⟨by omega,by omega,by omega,by rw[el];omega⟩,?_⟩
      rw[eci];rw[hex] at hN4;refine aZ0 (λv Γ S'=>∃(U O J:Option D),Γ=[some (.tup (ts.map tupS)),some (.int (m:Nat)),some (.ref fp),some (.int (i:Nat)),some (tupS (ts.getD i [])),some (.int (j:Nat)),some (tupS c),some (.ref rp),some (.int (t:Nat)),some (.ref lp),some (.lst (r.map natE.e)),some (.lst ((tk71 ts c r).map D.str)),U,O,J]/\S' rp=some (.lst (R.map gW))/\S' lp=some (.lst ((A0++(((b4 (bg r) v).map λo=>r++[o]).filter (okC ts c))).map gW))/\∀b o,S2 b=some o->S' b=some o) ⟨_,_,_,rfl,h4,by simpa using h5,hs4⟩ ?_ ?_
      ·rintro v x Γ S5 N5 hx ⟨U,O,J,rfl,h6,h7,hs5⟩ hN5;obtain⟨hv,rfl⟩:=aJ1 _ _ v x hx;have eo:(((r.getLastD 0:Nat):Int)+1)+(v:Nat)=((bg r+v:Nat):Int):=by omega
       rw[eo];have ho:bg r+v<n:=by omega
       have er':b4 (bg r) (v+1)=b4 (bg r) v++[bg r+v]:=by rw[ja];simp
       have e6:((b4 (bg r) (v+1)).map λo=>r++[o]).filter (okC ts c)=((b4 (bg r) v).map λo=>r++[o]).filter (okC ts c)++[r++[bg r+v]].filter (okC ts c):=by rw[er',aW,fx];rfl
       rw[e6,<- a6] at hN5;clear e6;have hlen7:(A0++(((b4 (bg r) v).map λo=>r++[o]).filter (okC ts c))).length<=38416*14+14:=by
        rw[ar]
        have:=aM (okC ts c) ((b4 (bg r) v).map λo=>r++[o])
        rw[ae,gz] at this;omega
       generalize A0++(((b4 (bg r) v).map λo=>r++[o]).filter (okC ts c))=A1 at h7 hlen7 hN5;generalize bg r+v=o at ho hN5;have hput:=eJ8 (o:=o) ok (gs o).1.nodup;have so:=gs o;have hhl:=eJ9 so.1.nodup sc.nodup;have htp:=cZl ts c r o;have htl:(tk71 ts c r).length<=9999:=by
        refine Nat.le_trans (aX7 (b:=6) λi _=>Nat.le_trans (aM _ _) (gs i).2) ?_
        have:=hRr r (ak hr)
        omega
       refine⟨trivial,_,_,rfl,gt o ho,_,rfl,aQr (p:=λx=>!decide (x∈c)) (f:=D.str) (λx hx Q q=>in_t (neg:=true) (E:=strE) (by decide) rfl q) (λx hx _ Q q=>q) (aQd (by show 0+_<=_;omega)) ?_⟩
       rw[bN];refine⟨_,rfl,_,rfl,_,_,rfl,gt o ho,_,rfl,rfl,?_⟩;have ewo:(ts.getD o []).filter (λx=>!decide (x∈c))=wo (ts.getD o []) c:=rfl;rw[ewo];refine ite2 (λc1=>?_) λc1=>?_
       ·refine⟨_,rfl,aQr (p:=λx=>decide (x∈tk71 ts c r)) (f:=D.str) (λx hx Q q=>in_t (neg:=false) (E:=strE) (by decide) rfl q) (λx hx _ Q q=>q) (aQd (by have:=aM (λd=>!decide (d∈c)) (ts.getD o []);show 0+(wo (ts.getD o []) c).length<=_;unfold wo;omega)) ?_⟩
        rw[bN];have hhas:has (ts.getD o []) c=true:=hhl.mp (by
         have h:=of_decide_eq_true (show decide (D.int (((wo (ts.getD o []) c).map D.str).length+(c.map D.str).length)=D.int ((ts.getD o []).map D.str).length)=true from c1)
         injection h with h
         rw[ae,ae,ae] at h
         omega)
        have ok2:okE 9 (.lst (((wo (ts.getD o []) c).filter λx=>decide (x∈tk71 ts c r)).map D.str)) (.lst [])=true:=by unfold okE;rw[gy];rfl
        have wl:(wo (ts.getD o []) c).length<=6:=Nat.le_trans (aM _ _) so.2;have rl9:=hRr r (ak hr);cases hm:mts (tk71 ts c r) (wo (ts.getD o []) c) with
        |false =>
         have e0:((wo (ts.getD o []) c).filter λx=>decide (x∈tk71 ts c r))=[]:=gT.mpr λx hx z=>by
          rw[mts_iff.mpr ⟨x,hx,of_decide_eq_true z⟩] at hm;cases hm
         rw[e0] at ok2;rw[hhas,hm] at hput;rw[e0];refine⟨aQd (by show 0<=9999;decide),ok2,true,dXd rfl,ite2 (λ_=>?_) λz=>absurd rfl z⟩
         refine⟨⟨_,h7⟩,aQd (by show 1<=9999;decide),_,_,rfl,rfl,aQd (by rw[ae];show r.length+1<=_;omega),_,_,rfl,rfl,?_,aQd (by show 2<=9999;decide),_,h7,?_,hN5 _ _ ⟨_,_,_,rfl,?_,?_,λb o e=>?_⟩⟩
         ·rw[ae,ae,bu];omega
         ·rw[ae,bu];omega
         ·rw[aQ7 (cv hlr)];exact h6
         ·have ef:[r++[o]].filter (okC ts c)=[r++[o]]:=by rw[cK,hput];rfl
          have ew:gW (r++[o])=.tup [.lst (r.map natE.e++[D.int (o:Nat)]),.lst ((tk71 ts c r).map D.str++(wo (ts.getD o []) c).map D.str)]:=by rw[erw];show D.tup [.lst ((r++[o]).map natE.e),.lst ((tk71 ts c (r++[o])).map D.str)]=_;rw[htp,aW,aW];rfl
          rw[aQa,ef,aW,List.map_singleton,ew]
         ·rw[aQ7 (by rintro rfl;rw[hlS] at e;cases e)];exact hs5 b o e
        |true =>
         have ne:((wo (ts.getD o []) c).filter λx=>decide (x∈tk71 ts c r)).map D.str≠[]:=λz=>by
          obtain⟨x,h1,h2⟩:=mts_iff.mp hm
          have:=List.map_eq_nil_iff.mp z
          have h3:x∈((wo (ts.getD o []) c).filter λx=>decide (x∈tk71 ts c r)):=az.mpr ⟨h1,decide_eq_true h2⟩;rw[this] at h3;cases h3
         rw[hm] at hput;refine⟨aQd (by show 0<=9999;decide),ok2,false,gQn (λz=>ne (by injection z)),ite2 (λz=>by cases z) λ_=>hN5 _ _ ⟨_,_,_,rfl,h6,?_,hs5⟩⟩
         have ef:[r++[o]].filter (okC ts c)=[]:=by rw[cK,hput,fC,iS];rfl
         rw[ef,bD];exact h7
       ·have hhas:has (ts.getD o []) c=false:=by
         cases h:has (ts.getD o []) c with
         |false=>rfl
         |true =>
          have h2:=hhl.mpr h;refine absurd (show decide (D.int (((wo (ts.getD o []) c).map D.str).length+(c.map D.str).length)=D.int ((ts.getD o []).map D.str).length)=true from decide_eq_true ?_) c1
          rw[ae,ae,ae];exact congrArg D.int (by omega)
        rw[hhas] at hput;refine ite2 (λz=>by cases z) λ_=>hN5 _ _ ⟨_,_,_,rfl,h6,?_,hs5⟩
        have ef:[r++[o]].filter (okC ts c)=[]:=by rw[cK,hput,kc];rfl
        rw[ef,bD];exact h7
      ·rintro Γ S5 ⟨U,O,J,rfl,h6,h7,hs5⟩;rw[aZ6] at h7;exact⟨trivial,hN4 _ _ ⟨_,_,_,_,_,rfl,h6,h7,hs5⟩⟩
     ·rintro Γ S4 ⟨Z,Y,U,O,J,rfl,h4,h5,hs4⟩;rw[ae,bR] at h5;exact⟨h4,hN3 _ _ ⟨lp,_,_,_,_,_,_,_,rfl,hlS,h5,hs4⟩⟩
    ·clear hrp hrf hrS rp hst;rintro Γ S3 ⟨rp,x8,x9,Z,Y,U,O,J,rfl,hrp,h3,hs3⟩;rw[aZ6,<- hGij] at h3;rw[<- hGij] at hcr;refine⟨trivial,?_⟩;have hf:S3 fp=some (.lst _):=hs3 _ _ h2;have gl:=Gl i j;have hacc:((((aI i).flatMap λi=>(b4 (i+1) (n-(i+1))).flatMap λj=>G i j)++(b4 (i+1) k).flatMap λj=>G i j).map (rowD ts)).length<=15*(14*38416):=by
      rw[ae,ar];have a1:=aX7 (f:=λj=>G i j) (b:=38416) (L:=b4 (i+1) k) λj _=>Gl i j;have a2:=aX7 (f:=λi=>(b4 (i+1) (n-(i+1))).flatMap λj=>G i j) (b:=14*38416) (L:=aI i) λi _=>by
       refine Nat.le_trans (aX7 (b:=38416) λj _=>Gl i j) ?_;rw[gz];exact Nat.mul_le_mul_right _ (by omega)
      rw[gz] at a1;rw[dh] at a2;have a3:=Nat.mul_le_mul_right 38416 (show k<=14 by omega)
      have a4:=Nat.mul_le_mul_right (14*38416) (show i<=14 by omega)
      omega
     refine⟨⟨_,hf⟩,_,h3,?_⟩;refine aZ7 (λk acc S'=>acc=((G i j).take k).map (rowD ts)/\S'=S3) ⟨rfl,rfl⟩ ?_ ?_
     ·rintro k x acc S' N hx ⟨rfl,rfl⟩ hN;rw[aQ,bh] at hx;obtain⟨r,hr,rfl⟩:=hx;have er:gW r=.tup [.lst (r.map natE.e),.lst ((tk71 ts c r).map D.str)]:=by rw[erw]
      have tk:(G i j).take (k+1)=(G i j).take k++[r]:=by rw[bJ,hr];rfl
      have hc:=hcr r (ak hr);rw[er];rw[tk,aW] at hN;have e2:rowD ts r=.tup [.lst (r.map natE.e),tupS c]:=by unfold rowD;rw[hc]
      refine⟨h3,rfl,rfl,aQd (by show 2<=9999;decide),?_,hN _ _ ⟨by rw[List.map_singleton,e2],rfl⟩⟩
      rw[ae,aK,bu];omega
     ·rintro acc S' ⟨rfl,rfl⟩;rw[ae,bR];refine⟨h3,λbp hbp=>?_⟩;have hbf:bp≠fp:=by rintro rfl;rw[hf] at hbp;cases hbp
      refine⟨_,_,(aQ7 (cv hbf)).trans hf,aQa,?_,hN2 _ _ ⟨_,_,_,_,_,_,_,_,_,_,rfl,?_,λb o e=>?_⟩⟩
      ·rw[ae (as:=G i j),bu];omega
      ·rw[aQa,dP,gV,<- a6,aW (l₂:=G i j)]
      ·rw[aQ7 (by rintro rfl;rw[hfp] at e;cases e)]
       have e3:=hs3 _ _ (hs2 _ _ e);rw[aQ7 (by rintro rfl;rw[hbp] at e3;cases e3)]
       exact e3
   ·rintro Γ S2 ⟨x5,x6,x7,x8,x9,Z,Y,U,O,J,rfl,h2,hs2⟩;rw[aZ6] at h2;refine⟨trivial,hN _ _ ⟨_,_,_,_,_,_,_,_,_,_,_,_,rfl,?_,hs2⟩⟩;rw[gp,dP,gV];exact h2
  ·rintro Γ S1 ⟨x3,x4,x5,x6,x7,x8,x9,Z,Y,U,O,J,rfl,h1,hs1⟩;rw[aZz,el] at h1;exact⟨trivial,dJl (S':=S) h1 hs1 hfp q⟩
end
end Toy
namespace L2
open PySem PySem.Spec PyProof.Rows
section
variable{κ β:Type}[DecidableEq κ]
def valX(kvs:List (κ×β))(k:κ):Option β:=(kvs.find? λkv=>decide (kv.1=k)).map (·.2)
def putX(kvs:List (κ×β))(k:κ)(v:β):List (κ×β):=if (kvs.any λkv=>decide (kv.1=k))=true then kvs.map (λkv=>if kv.1=k then (kv.1,v) else kv) else kvs++[(k,v)]
theorem dXl{p:κ×β}{r:List (κ×β)}{k:κ}(e:p.1=k):valX (p::r) k=some p.2:=by simp[valX,fA,e]
theorem dXm{p:κ×β}{r:List (κ×β)}{k:κ}(e:¬ p.1=k):valX (p::r) k=valX r k:=by simp[valX,fA,e]
end
structure KnD(P:aD)(w:aR)(K:Fg)(κ:Type)[DecidableEq κ] where
 knd:HeapKind P w κ
 enc:κ->D
 room:∀{A:bi},A.units+8<cQ->knd.room A.in1
 key:∀{X:Cx}{pins:List (Addr×Obj)}{σ:St}{H:Hp}{s:aj}{M:Am}{k:κ}{b:Addr},X.prog=P->X.w=w->X.K=K->Inv X pins σ H s->RepV K M H (enc k) (.ref b)->knd.is s.heap k b
 ref:∀{M:Am}{H:Hp}{k:κ}{v:V},RepV K M H (enc k) v->∃b,v=.ref b
section
variable{P:aD}{w:aR}{K:Fg}{κ:Type}[DecidableEq κ]
abbrev KX(N:KnD P w K κ)(M:Am)(H:Hp)(p:κ×V)(q:κ×Addr×ad):Prop:=p.1=q.1/\RepV K M H (N.enc p.1) (.ref q.2.1)/\RelV p.2 q.2.2
def DxV(N:KnD P w K κ)(o:Obj)(M:Am)(H:Hp)(a:Addr)(kw:List (κ×V)):Prop:=∃es ep,∃xs:List (κ×Addr×ad),H a=some (cdO a o)/\o.ExactDict/\o.data=.dict es ep/\es.toList=xs.map (entryOfKey N.knd)/\(xs.map (·.1)).Nodup/\kw.length<=sizeLine/\(a==gv)=false/\a9 (KX N M H) kw xs
variable{N:KnD P w K κ}{M M':Am}{H H':Hp}{a:Addr}{o:Obj}{kw:List (κ×V)}
theorem DxV.keep(h:DxV N o M H a kw)(k:Keep M H M' H')(e:H' a=H a):DxV N o M' H' a kw:=by
 obtain⟨es,J,xs,h1,h2,G,D,B,j,i,d⟩:=h;exact⟨es,J,xs,e.trans h1,h2,G,D,B,j,i,Paired.imp (λ_ _ z=>⟨z.1,z.2.1.keep k,z.2.2⟩) d⟩
theorem eQ2{xs:List (κ×Addr×ad)}(r:a9 (KX N M H) kw xs)(k:κ):RelO (valV kw k) ((atKey xs k).map (·.2)):=by
 induction r with
 |nil=>exact g8
 |@cons p q ps d h t i =>
  obtain⟨h1,_,h2⟩:=h
  by_cases e:p.1=k
  ·have b:atKey (q::d) k=some q.2:=by simp[atKey,fA,h1.symm.trans e]
   rw[bZw e,b];exact h2
  ·have j:¬ q.1=k:=λz=>e (h1.trans z);have b:atKey (q::d) k=atKey d k:=by simp[atKey,fA,j]
   rw[bZx e,b];exact i
theorem fJ1{xs:List (κ×Addr×ad)}(r:a9 (KX N M H) kw xs)(k:κ){b:Addr}{y:V}{u:ad}(hb:RepV K M H (N.enc k) (.ref b))(ry:RelV y u):a9 (KX N M H) (putK kw k y) (storedH xs k b u):=by
 have e:(kw.any λd=>decide (d.1=k))=(atKey xs k).isSome:=by rw[cZ0,(eQ2 r k).isSome_eq,jp]
 unfold putK storedH;rw[e]
 by_cases q:(atKey xs k).isSome=true
 ·rw[if_pos q,if_pos q];clear e q
  induction r with
  |nil=>exact .nil
  |@cons p q ps B h t i =>
   rw[bd,bd];refine .cons ?_ i;obtain⟨h1,h2,j⟩:=h;unfold putAt
   by_cases e:p.1=k
   ·rw[if_pos e,if_pos (h1.symm.trans e)];exact⟨h1,h2,ry⟩
   ·rw[if_neg e,if_neg (λz=>e (h1.trans z))];exact⟨h1,h2,j⟩
 ·rw[if_neg q,if_neg q];exact a9.snoc r ⟨rfl,hb,ry⟩
theorem DxV.at{X:Cx}{pins:List (Addr×Obj)}{σ:St}{s:aj}(h:DxV N o M H a kw)(hP:X.prog=P)(hw:X.w=w)(hK:X.K=K)(I:Inv X pins σ H s) :
  s.heap.get? a=some o/\∃xs,s.heap.DictOfH N.knd a xs/\a9 (KX N M H) kw xs:=by
 obtain⟨es,O,xs,h1,h2,L,J,G,h6,Z,i⟩:=h;obtain⟨d,_⟩:=I.hok a _ h1;refine⟨d,xs,⟨o,es,O,d,h2,L,J,λx D=>?_,G⟩,i⟩;obtain⟨p,Y,B,j,U⟩:=ST.paired_mem' i x D;rw[<- B];exact N.key hP hw hK I j
theorem DxV.lo(h:DxV N o M H a kw):(a==gv)=false:=by
 obtain⟨es,J,xs,h1,h2,G,D,B,j,d,i⟩:=h;exact d
theorem DxV.len(h:DxV N o M H a kw):kw.length<=sizeLine:=by
 obtain⟨es,J,xs,h1,h2,G,D,B,d,j,i⟩:=h;exact d
end
section
variable{X:Cx}{K:Fg}{κ:Type}[DecidableEq κ]{pos:Pos}{k:Nat}
theorem dXn{N:KnD X.prog X.w K κ}(M:Am):PE X (.Dict [] [] pos) (λ_ H Q=>∀p,H p=none->∀o,DxV N o M (upd H p (cdO p o)) p []->Q (.ref p) (upd H p (cdO p o))):=λpins s σ H Q I h=>by
 have d:(s.heap.push { cls:=.type "dict",data:=.dict #[] }).get? s.heap.objs.size=some { cls:=.type "dict",data:=.dict #[] }:=av _ rfl;have lo:(s.heap.objs.size == gv)=false:=beq_eq_false_iff_ne.mpr (cv (Nat.ne_of_lt I.big));exact wpAny_Dict_empty ⟨.ref s.heap.objs.size,_,I.laid (a:=s.heap.objs.size) (o:=cdO s.heap.objs.size { cls:=.type "dict",data:=.dict #[] }) (t':=s.toks) (λ_ _ q=>ah _ q) (Nat.le_refl _) ⟨d,⟨_,d⟩,λg1 g2 g k=>k _ g⟩,rfl,
  h _ (I.hok.fresh (Nat.le_refl _)) _ ⟨#[],0,[],aQ9,⟨rfl,rfl,rfl⟩,rfl,rfl,fL,Nat.zero_le _,lo,.nil⟩⟩
def gQq{P:aD}{w:aR}(N:KnD P w K κ)(td ty tv:TE):TS:=λD σ H=>tv σ H λv H1=>td σ H1 λx H2=>ty σ H2 λy H3=>∃a o M kw k,x=.ref a/\M a/\DxV N o M H3 a kw/\RepV K M H3 (N.enc k) y/\kw.length<sizeLine/\∀o',DxV N o' M (upd H3 a (cdO a o')) a (putK kw k v)->D.nx σ (upd H3 a (cdO a o'))
theorem eJb{N:KnD X.prog X.w K κ}{o i value:Expr}{pos':Pos}{td ty tv:TE}(hu:X.A.units+8<cQ)(hK:X.K=K)(ho:PE X o td)(hi:PE X i ty)(hv:PE X value tv)(hs:g7 value (some (.Subscript o i pos')) pos.line X.env=pure false) :
  PS X (.Assign [.Subscript o i pos'] value pos) (gQq N td ty tv):=by
 intro pins s σ H D I h;refine wpAny_Assign_Subscript (thn (hv pins s σ H _ I h) λr s1 ⟨v,H1,I1,rv,q1⟩=>thn (ho pins s1 σ H1 _ I1 q1) λu s2 ⟨x,H2,I2,Z,q2⟩=>thn (hi pins s2 σ H2 _ I2 q2) λiv s3 ⟨y,U,O,Y,a,ob,M,kw,k,ex,hM,d,j,hl,q3⟩=>?_) hs;subst ex;obtain rfl:u=dZ a:=Z;obtain⟨b,rfl⟩:=N.ref j;cases (show iv=dZ b from Y)
 obtain⟨g1,xs,dd,rel⟩:=d.at rfl rfl hK O;have hz:xs.length<=sizeLine:=by rw[<- cq rel];exact d.len
 have J:(putK kw k v).length<=sizeLine:=by have:=bJu kw k v;omega
 obtain⟨_,_,_,hH,_⟩:=id d;refine wpAny_setItem_heap (hsz:=hz) (N.room hu) (N.key rfl rfl hK O j) dd λh' L B=>?_;obtain⟨q,es,ep,G,h2,h3,h4,_,h5⟩:=L;have kp:Keep M U M (upd U a (cdO a q)):=⟨λc oc hc e=>by rw[upd_ne (λz=>hc (by rw[z];exact hM))];exact e,λ_ h _=>h⟩
 refine⟨σ,_,eX2 O (by rw[hH];exact g8) B ⟨q,G⟩ (ob:=cdO a q) ⟨G,⟨_,G⟩,λg1 g2 g k=>k _ g⟩,q3 q ⟨es,ep,_,aQ9,h2,h3,h4,h5,J,d.lo,Paired.imp (λ_ _ z=>⟨z.1,z.2.1.keep kp,z.2.2⟩) (fJ1 rel k j rv)⟩⟩
end
section
variable{P:aD}{w:aR}{K:Fg}{κ:Type}[DecidableEq κ]{F:Am}{S:Sto}{H:Hp}{a:Addr}
abbrev PX(K:Fg)(M:Am)(H:Hp)(p:κ×V)(q:κ×D):Prop:=p.1=q.1/\RepV K M H q.2 p.2
def dxO(N:KnD P w K κ)(o:Obj)(kvs:List (κ×D)):DO:=.ex (λM H a=>∃kw,DxV N o M H a kw/\a9 (PX K M H) kw kvs)
 (λM M' H H' a k e h=>by
  obtain⟨kw,h1,h2⟩:=h;exact⟨kw,h1.keep k e,Paired.imp (λ_ _ z=>⟨z.1,z.2.keep k⟩) h2⟩)
 λM H a h=>by
  obtain⟨kw,⟨es,ep,xs,h1,_⟩,_⟩:=h;exact⟨_,h1,trivial⟩
theorem fJ2{M:Am}{kw:List (κ×V)}{kvs:List (κ×D)}(r:a9 (PX K M H) kw kvs)(k:κ):(valV kw k=none/\valX kvs k=none)\/∃v d,valV kw k=some v/\valX kvs k=some d/\RepV K M H d v:=by
 induction r with
 |nil=>exact .inl ⟨rfl,rfl⟩
 |@cons p q ps j h t i =>
  by_cases e:p.1=k
  ·exact .inr ⟨_,_,bZw e,dXl (h.1.symm.trans e),h.2⟩
  ·rw[bZx e,dXm λz=>e (h.1.trans z)];exact i
theorem fJ3{M:Am}{kw:List (κ×V)}{kvs:List (κ×D)}(l:a9 (PX K M H) kw kvs)(k:κ){v:V}{d:D}(rv:RepV K M H d v):a9 (PX K M H) (putK kw k v) (putX kvs k d):=by
 have i:(kw.any λj=>decide (j.1=k))=kvs.any λj=>decide (j.1=k):=by
  induction l with
  |nil=>rfl
  |cons h _ B=>rw[jw,jw,h.1,B]
 unfold putK putX;rw[i]
 split
 ·rename_i G;clear i G
  induction l with
  |nil=>exact .nil
  |@cons a b as bs h _ B =>
   refine .cons ?_ B;show(if a.1=k then (a.1,v) else a).1=(if b.1=k then (b.1,d) else b).1/\RepV K M H (if b.1=k then (b.1,d) else b).2 (if a.1=k then (a.1,v) else a).2
   rw[h.1]
   split
   ·exact⟨rfl,rv⟩
   ·exact h
 ·rename_i G;clear i G;exact a9.snoc l ⟨rfl,rv⟩
end
section
variable{X:Cx}{K:Fg}{κ:Type}[DecidableEq κ]{pos:Pos}{k:Nat}{P:aD}{w:aR}
def gQr(N:KnD P w K κ):ED:=λ_ S Q=>∀p,S p=none->∀o,Q (.ref p) (supd S p (dxO N o []))
theorem eJc(N:KnD P w K κ)(hP:X.prog=P:=by rfl)(hw:X.w=w:=by rfl):PD K X (.Dict [] [] pos) (gQr N):=by
 subst hP hw;refine .of (dXn (N:=N) (λ_=>False)) fun σ H Q i=>i.el λF S Γ QD r g q c=>λp d o dx=>?_;refine c (.ref p) (.ref p) _ (supd S p (dxO N o [])) (Ext.mk' d) (r.mk' d ⟨[],?_,.nil⟩) (by unfold RepV;rfl) (q p (r.sn d) o)
 obtain⟨es,L,xs,h1,h2,J,G,D,B,j,h8⟩:=dx;cases h8;exact⟨es,L,[],h1,h2,J,G,D,B,j,.nil⟩
def gQs(N:KnD P w K κ)(td ty tv:ED):SD:=λE Γ S=>tv Γ S λv S1=>td Γ S1 λx S2=>ty Γ S2 λy S3=>∃a o kvs k,x=.ref a/\S3 a=some (dxO N o kvs)/\y=N.enc k/\kvs.length<sizeLine/\∀o',E.nx Γ (supd S3 a (dxO N o' (putX kvs k v)))
theorem eJd(N:KnD P w K κ){o i value:Expr}{pos':Pos}{td ty tv:ED}(hr:Room k X.A)(ho:PD K X o td)(hi:PD K X i ty)(hv:PD K X value tv)(hP:X.prog=P:=by rfl)(hw:X.w=w:=by rfl)(hK:X.K=K:=by rfl)(hs:g7 value (some (.Subscript o i pos')) pos.line X.env=pure false:=by rfl) :
  PSD K X (.Assign [.Subscript o i pos'] value pos) (gQs N td ty tv):=by
 subst hP hw;refine .of (eJb (N:=N) (lt64 hr) hK ho.o hi.o hv.o hs) λD' σ H z0=>z0.el λF S Γ E r g q c=>⟨F,S,Γ,_,r,g,q,λv d H1 S1 O r1 v1 q1=>⟨F,S1,Γ,_,r1,g.ext O,q1,λx od H2 S2 L r2 v2 q2=>⟨F,S2,Γ,_,r2,g.ext (O.trans L),q2,λy dy H3 B J Y v3 ⟨a,o,D,k,e1,Z,e3,hz,q3⟩=>?_⟩⟩⟩;subst e1 e3;obtain⟨kw,dx,pp⟩:=Y.obj a _ Z;have j:B a≠none:=by rw[Z];exact λz=>by cases z
 refine⟨a,o,mt B F,kw,k,rref (v2.ext J),.inl j,dx,v3,by rw[cq pp];exact hz,λo' U=>?_⟩
 have G:Ext B H3 (supd B a (dxO N o' (putX D k d))) (upd H3 a (cdO a o')):=Ext.write j;have x:=O.trans (L.trans (J.trans G));have mm:∀ b,¬ mt B F b->¬ mt (supd B a (dxO N o' (putX D k d))) F b:=λb hb z=>hb (z.elim (λz=>by
  by_cases e:b=a
  ·rw[e];exact .inl j
  ·rw[aQ7 e] at z;exact .inl z) .inr)
 refine c.nx Γ _ σ _ x (Y.write j ⟨_,U.keep ⟨λ_ _ _ h=>h,λb h _=>mm b h⟩ rfl,?_⟩) (g.ext x) (q3 o');exact fJ3 (Paired.imp (λ_ _ z=>⟨z.1,z.2.ext G⟩) pp) k (v1.ext (L.trans (J.trans G)))
end
def tKN(P:aD)(w:aR)(K:Fg):KnD P w K (List Str) where
 knd:=tupleKind (strKind P w)
 enc:=tupS
 room:=λh=>tupleKind_room_in1 (by omega)
 key:=λ{X pins σ H s M k b} e1 e2 e3 I r=>by
  subst e1 e2 e3;unfold tupS RepV at r;obtain⟨a,xs,e,t,l⟩:=r;cases e;obtain⟨its,ri,tp,_⟩:=I.tuple t.sq;obtain⟨b',e',hk⟩:=dZe (K:=X.K) (H:=H) (aJh l) ri tp;cases e';exact hk
 ref:=λ{M H k v} r=>by
  unfold tupS RepV at r;obtain⟨a,xs,e,_⟩:=r;exact⟨a,e⟩
section
variable{X:Cx}{K:Fg}{κ:Type}[DecidableEq κ]{pos:Pos}{k:Nat}{P:aD}{w:aR}
def fJ4(K:Fg)(N:KnD P w K κ):R2:=λx y H Q=>∃a o M kw k,y=.ref a/\DxV N o M H a kw/\RepV K M H (N.enc k) x/\Q (.bl (!(valV kw k).isSome)) H
theorem eJe(N:KnD X.prog X.w K κ)(hu:X.A.units+8<cQ)(hK:X.K=K):OpR X (cu .NotIn) (fJ4 K N):=by
 intro pins s σ H x y v u Q I B j h;obtain⟨a,o,M,kw,k,rfl,d,i,q⟩:=h;obtain rfl:u=dZ a:=j;obtain⟨b,rfl⟩:=N.ref i;cases (show v=dZ b from B)
 obtain⟨g1,xs,dd,rel⟩:=d.at rfl rfl hK I;refine wpAny_notIn_heap (N.room hu) (N.key rfl rfl hK I i) d.lo dd ?_;have e:=(eQ2 rel k).isSome_eq;rw[jp] at e;rw[<- e];exact⟨.bl _,H,I.tok _,rfl,q⟩
def fJ5(N:KnD P w K κ):R2D:=λd e S Q=>∃a o kvs k,e=.ref a/\S a=some (dxO N o kvs)/\d=N.enc k/\Q (.bl (!(valX kvs k).isSome)) S
theorem eJf(N:KnD P w K κ):OpD K (fJ4 K N) (fJ5 N):=by
 intro F S H d e x y Q QD r hd he h c;obtain⟨a,o,i,k,rfl,j,rfl,q⟩:=h;obtain⟨kw,dx,pp⟩:=r.obj a _ j;refine⟨a,o,_,kw,k,rref he,dx,hd,?_⟩
 have:(valV kw k).isSome=(valX i k).isSome:=by
  rcases fJ2 pp k with⟨h1,h2⟩|⟨B,G,h1,h2,D⟩ <;> rw[h1,h2] <;> rfl
 rw[this];exact c.bl r q
theorem eJg(N:KnD P w K κ){a b:Expr}{ta tb:ED}(hr:Room k X.A)(ha:PD K X a ta)(hb:PD K X b tb)(hP:X.prog=P:=by rfl)(hw:X.w=w:=by rfl)(hK:X.K=K:=by rfl)(hm:d7 .NotIn b=false:=by rfl):PTD K X (.Compare a [.NotIn] [b] pos) (aXy (dOp (fJ5 N) ta tb)):=by
 subst hP hw;exact aXz (eJe N (lt64 hr) hK) (eJf N) ha hb hm
end
section
variable{κ β:Type}[DecidableEq κ]
theorem dQp{kvs:List (κ×β)}{k:κ}:(valX kvs k).isSome=true↔k∈kvs.map (·.1):=by
 unfold valX;rw[jp,List.find?_isSome];simp only[decide_eq_true_eq,aV]
theorem dQq{kvs:List (κ×β)}{k x:κ}{v:β}:x∈(putX kvs k v).map (·.1)↔x=k\/x∈kvs.map (·.1):=by
 unfold putX
 split
 ·rename_i h;have e:(kvs.map λd=>if d.1=k then (d.1,v) else d).map (·.1)=kvs.map (·.1):=by
   rw[cg];refine f6 λd _=>?_;show(if d.1=k then (d.1,v) else d).1=d.1
   split <;> rfl
  rw[e];refine⟨.inr,λz=>z.elim (λe=>?_) id⟩;obtain⟨d,h1,h2⟩:=List.any_eq_true.mp h;rw[e,<- of_decide_eq_true h2];exact aV.mpr ⟨d,h1,rfl⟩
 ·rw[aW,aJ];simp[or_comm]
theorem dXo{kvs:List (κ×β)}{k:κ}{v:β}:(putX kvs k v).length<=kvs.length+1:=by
 unfold putX
 split
 ·rw[ae];omega
 ·rw[ar];exact Nat.le_refl _
end
end L2
set_option maxHeartbeats 4000000
namespace L2
open PySem PySem.Spec PyProof.Rows
section
variable{X:Cx}
def fJ6(w:aR)(K:Fg):List V->Hp->VK->Prop:=λxs H Q=>∃(x:V) (ds cs:List (List Str)),xs=[x]/\dL K (dT K dS) H x ds/\(∀k∈ds,k∈cs)/\cs.length<299/\∀p ms H',Same H H'->ms.Nodup->(∀k,k∈ms↔k∈ds)->dSt w K H' (.ref p) ms->Q (.ref p) H'
theorem cX8{K:Fg}{w:aR}(hu:X.A.units+8<cQ)(hK:X.K=K:=by rfl)(hw:X.w=w:=by rfl)(hc:X.calm=true:=by rfl):CallR X (.type "set") (fJ6 w K):=by
 subst hK hw;intro pins s σ H xs us Q I r h;obtain⟨x,ds,cs,rfl,⟨a,ys,rfl,U,p⟩,j,Z,q⟩:=h;obtain⟨u,rfl,rx⟩:=aX9 r;cases rx;obtain⟨O,L,pl,_⟩:=I.list U;refine ST.call_setKM (ST.restr (ST.tupKd X.prog X.w) λk v=>∃x,RelV x v/\dT X.K dS H x k) (I.ok.hd hc) hu pl.isList (cJh I p L) j (by lia) λh' J ms M _ Y=>?_
 obtain⟨es,B,t,i,d,G⟩:=M.ex;obtain⟨ps,h1,h2⟩:=dZl G;have D:Same H (upd H s.heap.objs.size (stO s.heap.objs.size es B t)):=aQs (I.hok.fresh (Nat.le_refl _));exact⟨.ref s.heap.objs.size,_,I.laid (t':=J) (o:=stO s.heap.objs.size es B t) (λb o e=>Y b o (aB e) e) (Nat.le_refl _) ⟨(ST.tupKd X.prog X.w).obj i.1,⟨_,(ST.tupKd X.prog X.w).obj i.1⟩,λg1 g2 g k=>k _ g⟩,rfl,q _ _ _ D M.nd M.mem ⟨_,es,B,t,ps,rfl,aQ9,(ST.tupKd X.prog X.w).fits i.1,d,λz=>(ST.restr (ST.tupKd X.prog X.w) λk v=>∃x,RelV x v/\dT X.K dS H x k).few i G M.nd z,L2.Paired.imp (λ_ _ z=>⟨z.1,Mo.mo D z.2⟩) h1,h2⟩⟩
end
section
variable{X:Cx}{K:Fg}{pos:Pos}{k:Nat}{F:Am}{S:Sto}{H:Hp}
def dXp(b:Bool)(te:ED):ED:=fun Γ S Q=>te Γ S λd S1=>∃ts cs:List (List Str),lsIs S1 d (ts.map tupS)/\(∀t∈ts,t∈cs)/\cs.length<299/\∀out:List (List Str),out.Nodup->(∀t,t∈out↔t∈ts)->out.Pairwise (λa b=>HT.lexS a b=true)->newL b (out.map tupS) S1 Q
theorem bJb{b:Bool}{e:Expr}{te:ED}{p p' pos':Pos}(hr:Room k X.A)(hg:Gl X "sorted")(hm:X.mg "sorted"=none)(hg':Gl X "set")(hm':X.mg "set"=none)(he:PD K X e te)(hK:X.K=K:=by rfl)(hc:X.calm=true:=by rfl)
  (h1:au [e] X.env=(false,eval e X.env)::au [] X.env:=by rfl) (h2:au [jN (.Name "set" p') [e] [] pos'] X.env=(false,eval (jN (.Name "set" p') [e] [] pos') X.env)::au [] X.env:=by rfl) (h3:(cD pos (au [] X.env)).any (·.1)=false:=by rfl) (h4:(cD pos' (au [] X.env)).any (·.1)=false:=by rfl) :
  PD K X (.Call (.Name "sorted" p) [.Call (.Name "set" p') [e] [] pos'] [] pos) (dXp b te) :=
 .of (aXi (aZu (lt64 hr) hK rfl hc) hg hm aZv (aX3 (aXv (cX8 (lt64 hr) hK rfl hc) hg' hm' cXp (aX3 he.o aXu h1) (by decide) (by decide) h1 h4) aXu h2) (by decide) (by decide) h2 h3) fun σ H Q O=>O.el λF S Γ QD r g q c =>
 ⟨F,S,Γ,_,r,g,q,λv d H1 D Y J v1 L=>by
  obtain⟨Z,cs,hl,i,B,q1⟩:=L;obtain⟨a,us,rfl,sq,lu⟩:=lsIs.sl J v1 hl;refine⟨_,Z,cs,rfl,⟨a,us,rfl,sq,bX1 lu⟩,i,B,λp ms H2 s2 nd mem st=>⟨_,ms,rfl,st,nd,?_,λl ys out j pm pw pp=>?_⟩⟩
  ·have:=nd.length_le_of_subset (λk hk=>i k ((mem k).mp hk))
   omega
  ·have G:Rp K F D H2:=J.same s2;have U:Ext D H1 D H2:=Ext.same s2;exact Cn.new (Cn.shift c (Y.trans U)) G j (aJz G pp) (q1 out (pm.nodup_iff.mpr nd) (λt=>(pm.mem_iff).trans (mem t)) pw)⟩
end
end L2
set_option maxHeartbeats 1000000
namespace Toy
open PySem L2
abbrev s_law_next:Stmt:=top 24
theorem sc_law_next:FnScope ["sets", "many", "flowers", "held", "row", "core", "place"] ["sets", "many"] (aQ5 s_law_next):=fsc
def aJa:SpD:=λds S Q=>∃(ts:List (List Str)) (m:Nat),ds=[.tup (ts.map tupS),.int m]/\ts.length<=14/\2<=m/\m<=6/\SrtT ts/\(∀t∈ts,Srt t/\t.length<=6)/\∀out,SrtT out->out.length<=105->(∀t∈out,t.length<=6)->(∀r,r∈out↔(∃s∈ch ts m,coG s=some r)\/(r∈ts/\¬ ∃s∈ch ts m,r∈s/\(coG s).isSome=true))->Q (.tup (out.map tupS)) S
section
variable{P:aD}{w:aR}{K:ax}{mg:Str->Option ad}{base:bj}{pt cc:Addr}
theorem cQ9(T:Tx K mg "_law_next" s_law_next)(B:Bs mg)(d_law_flowers:Df P w K mg base 2 "_law_flowers" ["sets", "many"] (spU K aXq)):Df P w K mg base 3 "_law_next" ["sets", "many"] (spU K aJa):=by
 refine aX1 T sc_law_next (λF=>F.binds λ_ _ _ _ _ _=>us2 λ_ _=>rfl) ?_ λf cdv A outer s H E hr=>⟨_,(aQ2 (aQf (i:=2) sc_law_next.nd rfl (aY rfl) (aQ4 d_law_flowers hr rfl (aQ0 (dv 0) (aQ0 (dv 1) aQ1))))
  (aQ2 (aQf (i:=3) sc_law_next.nd rfl (h9 rfl) (eJc (tKN P w K)))
  (aQ2 (aZj cb rfl (aQz (dv 2)) (cQy rfl (aZm (aQq (i:=4) sc_law_next.nd rfl (aY rfl)) (aZm (aQq (i:=5) sc_law_next.nd rfl (aY rfl)) bZv))) (aQ3 (aZj cb rfl (aQz (dv 4)) (aQq (i:=6) sc_law_next.nd rfl (aY rfl)) (aQ3 (eJd (tKN P w K) hr (dv 3) (e_ix (dv 0) (dv 6)) e_bl)))))
  (aQ3 (aQi (aZs rfl B.tuple (aQ0 (bJb (b:=false) hr rfl B.sorted rfl B.set (aQw (k:=false) (aZ8 (N':=["row", "core"]) (oc:=none) (b:=false) [0,1] [] rfl sc_law_next.nd (λ_ _ _=>aQe ..) (.own (.own .nil)) (aQh rfl) (aQz (dv 2)) (bQl (i:=0) (j:=1)) (λ_ _ _ _ _=>bZ0 rfl (aZ5 (aQb (i:=0) (nd_ ["row", "core"]) rfl (aY rfl) (.inr rfl)) (aZ5 (aQb (i:=1) (nd_ ["row", "core"]) rfl (aY rfl) (.inr rfl)) aJb))) (λ_ _ _ _ _=>aZb) aQl (λ_ _ _ _ _ _=>aQk rfl (by exact PD.o (dv 1)))) (aZ8 (N':=["one", "held"]) (oc:=none) (b:=false) [0] [] rfl sc_law_next.nd (λ_ _ _=>aQe ..) (.own (.cap (i:=3) rfl (by decide +kernel) .nil)) (aQh rfl) (aQz (dv 0)) (cg_name (i:=0)) (λ_ _ _ _ _=>aQb (i:=0) (nd_ ["one", "held"]) rfl (aY rfl) (.inr rfl)) (λ_ _ _ _ _=>aQv (by exact(eJg (tKN P w K) hr (dv 0) (dv 1)))) aQl (λ_ _ _ _ _ _=>aQk rfl (by exact PD.o (dv 0)))))) aQ1))))))),?_⟩
 ·rintro ds S Q ⟨ts,m,rfl,_⟩;rfl
 ·rintro ds S Q ⟨ts,m,rfl,l14,m2,m6,hs,he,q⟩;have nd:=hs.nodup;have ne:∀t∈ts,t.Nodup:=λt ht=>(he t ht).1.nodup;have Z:=λs c=>eJ7 nd ne m2 (s:=s) (c:=c);have hcs:=λr h=>dXj ne m2 (r:=r) h;have hr:∀r∈fl71 ts m,r.length=m/\∀i∈r,i<ts.length:=λr h=>by
   rw[cQ8 ne m2] at h;obtain⟨h1,h2⟩:=aQo (az.mp h).1;exact⟨h1,λi hi=>bo.mp (h2.subset hi)⟩
  have fl9:(fl71 ts m).length<=20000:=by
   rw[cQ8 ne m2];refine Nat.le_trans (aM _ _) (Nat.le_trans (bJ3 _ _) ?_);rw[dh];exact Nat.le_trans (Nat.pow_le_pow_right (by decide) l14) (by decide)
  have gs:∀i,Srt (ts.getD i [])/\(ts.getD i []).length<=6:=λi=>by
   rw[ai];cases h:ts[i]? with
   |none=>exact⟨.nil,by decide⟩
   |some t=>exact he t (ak h)
  have c6:∀r,(cr71 ts r).length<=6:=λr=>Nat.le_trans (aM _ _) (gs _).2;refine⟨ts,m,rfl,l14,m2,m6,nd,he,λp hp o=>?_⟩;generalize fl71 ts m=F at Z hcs hr fl9;refine⟨_,rfl,aZ0 (λk Γ S'=>∃(o':Obj) (d:List (List Str×D)) (x4 x5 x6:Option D),Γ=[some (.tup (ts.map tupS)),some (.int (m:Nat)),some (.lst (F.map (rowD ts))),some (.ref p),x4,x5,x6]/\S' p=some (dxO (tKN P w K) o' d)/\(∀x,x∈d.map (·.1)↔∃r∈F.take k,∃i∈r,ts.getD i []=x)/\d.length<=6*k/\∀b,b≠p->S' b=S b) ⟨o,[],none,none,none,rfl,aQa,by simp,by simp,λb hb=>aQ7 hb⟩ ?_ ?_⟩
  ·rintro k x Γ S1 N U ⟨o1,d,x4,x5,x6,rfl,hd,hk,hl,off⟩ hN;rw[aQ,bh] at U;obtain⟨r,U,rfl⟩:=U;have hk2:=(ay.mp U).1;obtain⟨rl,ri⟩:=hr r (ak U);have tk:F.take (k+1)=F.take k++[r]:=by rw[bJ,U];rfl
   refine⟨trivial,rfl,rfl,_,rfl,aZ0 (λj Γ S'=>∃(o':Obj) (G:List (List Str×D)) (x6:Option D),Γ=[some (.tup (ts.map tupS)),some (.int (m:Nat)),some (.lst (F.map (rowD ts))),some (.ref p),some (.lst (r.map natE.e)),some (tupS (cr71 ts r)),x6]/\S' p=some (dxO (tKN P w K) o' G)/\(∀x,x∈G.map (·.1)↔x∈d.map (·.1)\/∃i∈r.take j,ts.getD i []=x)/\G.length<=d.length+j/\∀b,b≠p->S' b=S b) ⟨o1,d,x6,rfl,hd,by simp,by simp,off⟩ ?_ ?_⟩
   ·rintro j x Γ S2 N2 J ⟨o2,G,x6,rfl,hd2,Y,hl',O⟩ hN2;rw[aQ,bh] at J;obtain⟨i,J,rfl⟩:=J;have hj:=(ay.mp J).1;have hi:=ri i (ak J);have gt:atI (ts.map tupS) ((i:Nat):Int)=some (tupS (ts.getD i [])):=bQ5 (by rw[aQ,ag hi,ai,ag hi];rfl)
    refine⟨trivial,_,_,rfl,gt,p,o2,G,ts.getD i [],rfl,hd2,rfl,by rw[bu];omega,λo3=>hN2 _ _ ⟨o3,_,_,rfl,aQa,λx=>?_,Nat.le_trans dXo (by omega),λb hb=>(aQ7 hb).trans (O b hb)⟩⟩
    rw[dQq,Y,bJ,J];constructor
    ·rintro(rfl|h|⟨i',h1,h2⟩)
     ·exact .inr ⟨i,by simp,rfl⟩
     ·exact .inl h
     ·exact .inr ⟨i',b7 _ h1,h2⟩
    ·rintro(h|⟨i',h1,h2⟩)
     ·exact .inr (.inl h)
     ·rcases aJ.mp h1 with h|h
      ·exact .inr (.inr ⟨i',h,h2⟩)
      ·have:i'=i:=by simpa using h
       subst this;exact .inl h2.symm
   ·rintro Γ S2 ⟨o2,G,x6,rfl,hd2,Y,hl',O⟩;rw[ae] at hl' Y;rw[bR] at Y;refine⟨trivial,hN _ _ ⟨o2,G,_,_,_,rfl,hd2,λx=>?_,by omega,O⟩⟩
    rw[Y,hk,tk];constructor
    ·rintro(⟨r',h1,h2⟩|⟨i,h1,h2⟩)
     ·exact⟨r',b7 _ h1,h2⟩
     ·exact⟨r,by simp,i,h1,h2⟩
    ·rintro⟨r',h1,i,h2,h3⟩;rcases aJ.mp h1 with h|h
     ·exact .inl ⟨r',h,i,h2,h3⟩
     ·rw[aG.mp h] at h2;exact .inr ⟨i,h2,h3⟩
  rintro Γ S1 ⟨o1,d,x4,x5,x6,rfl,hd,hk,hl,off⟩;rw[ae,bR] at hk;refine⟨trivial,_,rfl,aZ7 (λk acc S'=>acc=((F.take k).map (cr71 ts)).map tupS/\S'=S1) ⟨rfl,rfl⟩ ?_ ?_⟩
  ·rintro k x acc S' N U ⟨rfl,rfl⟩ hN;rw[aQ,bh] at U;obtain⟨r,U,rfl⟩:=U;refine⟨trivial,rfl,rfl,by rw[ae,ae,aK,bu];omega,hN _ _ ⟨?_,rfl⟩⟩
   rw[bJ,U,aW,aW];rfl
  rintro acc S' ⟨rfl,rfl⟩;rw[ae,bR];refine⟨trivial,_,rfl,aQr (p:=λt=>!(valX d t).isSome) (f:=tupS) (λt ht Q q=>⟨p,o1,d,t,rfl,hd,rfl,_,rfl,q⟩) (λt ht _ Q q=>q) (aQd (by show 0+ts.length<=_;omega)) ?_⟩
  rw[bN];have f2:=aM (λt=>!(valX d t).isSome) ts;have c91:=dXk l14;refine⟨_,_,rfl,rfl,by rw[ae,ae,ae,bu];omega,F.map (cr71 ts)++ts.filter (λt=>!(valX d t).isSome),cs71 ts++ts,by show _=_;rw[aW],λt ht=>?_,by rw[ar];omega,λout ond L opw=>⟨_,rfl,bJw (S':=S) (λb o' e=>(off b (by rintro rfl;rw[hp] at e;cases e)).trans e) (q out opw ?_ (λt ht=>?_) λr=>?_)⟩⟩
  ·rcases aJ.mp ht with h|h
   ·obtain⟨r,h1,rfl⟩:=aV.mp h;exact b7 _ (hcs r h1)
   ·exact bm _ (az.mp h).1
  ·have:=ond.length_le_of_subset (l₂:=cs71 ts++ts) λt ht=>by
    rcases aJ.mp ((L t).mp ht) with h|h
    ·obtain⟨r,h1,rfl⟩:=aV.mp h;exact b7 _ (hcs r h1)
    ·exact bm _ (az.mp h).1
   rw[ar] at this;omega
  ·rcases aJ.mp ((L t).mp ht) with h|h
   ·obtain⟨r,h1,rfl⟩:=aV.mp h;exact c6 r
   ·exact(he t (az.mp h).1).2
  ·rw[L,aJ,aV,az];refine or_congr ⟨λ⟨x,h1,h2⟩=>⟨_,(Z _ _).mpr ⟨x,h1,h2,rfl⟩⟩,λ⟨s,h1,h2⟩=>?_⟩ (and_congr_right λ_=>?_)
   ·obtain⟨x,a,b,_⟩:=(Z s r).mp ⟨h1,h2⟩;exact⟨x,a,b⟩
   ·rw[dr,<- ie,dQp,hk];refine not_congr ⟨λ⟨x,h1,i,h2,h3⟩=>?_,λ⟨s,h1,h2,h3⟩=>?_⟩
    ·obtain⟨a,b⟩:=(Z _ _).mpr ⟨x,h1,rfl,rfl⟩;exact⟨_,a,aV.mpr ⟨i,h2,h3⟩,by rw[b];rfl⟩
    ·obtain⟨c,hc⟩:=b8.mp h3;obtain⟨x,a,_,e⟩:=(Z s c).mp ⟨h1,hc⟩;rw[e] at h2;obtain⟨i,h4,h5⟩:=aV.mp h2;exact⟨x,a,i,h4,h5⟩
end
end Toy
namespace L2
open PySem PySem.Spec PyProof.Rows
section
variable{prog:aD}{w:aR}{A:bi}{E:ad->aj->Prop}{s:aj}{z ti to j1 j2 t1 t2:Addr}{m:Nat}{us vs:Array ad}{p q:ad}
theorem eJh{u v:ad}{R:ad->aj->Prop}(ap:ZipApart z ti to j1 j2 t1 t2)(g:iC s.heap z ti to .none)(gi:e7 s.heap ti (.ref j1) (.ref j2))(go:e7 s.heap to p q)
  (e1:s.heap.IsTupleIter j1 t1 m) (e2:s.heap.IsTupleIter j2 t2 m) (b1:s.heap.IsTuple t1 us) (b2:s.heap.IsTuple t2 vs) (hu:us[m]?=some u) (hv:vs[m]?=some v)
  (k:∀ h',iC h' z ti to (fq s.heap.objs.size)->e7 h' to u v->h'.IsTupleIter j1 t1 (m + 1)->h'.IsTupleIter j2 t2 (m + 1)->e7 h' s.heap.objs.size u v ->
   (∀c o,c≠z->c≠to->c≠j1->c≠j2->s.heap.get? c=some o->h'.get? c=some o)->R (.ref s.heap.objs.size) {s with heap:=h'}) :
  aH (aF prog w) A (cI.«zip.__next__» ⟨[.ref z],[]⟩) (λf s'=>∃y,f=.done (.ret y)/\R y s') E s:=by
 refine aa (m:=field (.ref z) 2) (cR g rfl (x:=.bool false) rfl (aa (m:=field (.ref z) 3) (cR g rfl (x:=.ref ti) rfl (aa (cA gi rfl ?_)))));refine aa (m:=du (.ref z)) ?_;unfold du;refine aa (cR g rfl (x:=.none) rfl (af ?_));simp only[if_true];refine aa (db (aa (cR g rfl (x:=.ref to) rfl (aa (bK g (by simp) λha ga sa=>?_)))))
 have Z:iC ha z ti to .ellipsis:=ga;refine aa ?_;simp only[jL,List.zipIdx_nil,eQ,kj];refine aa (aa (ip (aa (m:=cO (.ref j1)) (bZp (e1.extBut sa.extBut ap.i1z) (b1.extBut sa.extBut ap.l1z) hu λhb eb d=>af ?_))));have ob:e7 hb to p q:=d.extBut _ _ ap.TOi1 (sa.extBut _ _ ap.TOz go);refine aa (cA ob rfl (aa (ir ob λhc oc sc=>aa (gE (af ?_)))));have L:e7 hc to u q:=oc;refine aa (aa (ip (aa (m:=cO (.ref j2)) (bZp (((e2.extBut sa.extBut ap.i2z).extBut d.extBut ap.i12.symm).extBut sc.extBut ap.TOi2.symm) (((b2.extBut sa.extBut ap.l2z).extBut d.extBut ap.l2i1).extBut sc.extBut ap.l2TO) hv λhd ed sd=>af ?_))));have od:e7 hd to u q:=sd.extBut _ _ ap.TOi2 L;refine aa (cA od rfl (aa (ir od λhe oe i=>aa (gE (af (af ?_))))));have j:e7 he to u v:=oe;refine aa (cA j rfl (aa (wpAny_newTuple ?_)));have size:he.objs.size=s.heap.objs.size:=i.1.trans (sd.1.trans (sc.1.trans (d.1.trans sa.1)));have ge:iC he z ti to .ellipsis:=i.extBut _ _ ap.TOz.symm (sd.extBut _ _ ap.i2z.symm (sc.extBut _ _ ap.TOz.symm (d.extBut _ _ ap.i1z.symm Z)));have stay:∀c o,c≠z->c≠to->c≠j1->c≠j2->s.heap.get? c=some o->he.get? c=some o:=λc o G D U O x=>i.extBut _ _ D (sd.extBut _ _ O (sc.extBut _ _ D (d.extBut _ _ U (sa.extBut _ _ G x))));have f1:he.IsTupleIter j1 t1 (m+1):=((eb.extBut sc.extBut ap.TOi1.symm).extBut sd.extBut ap.i12).extBut i.extBut ap.TOi1.symm;have f2:he.IsTupleIter j2 t2 (m+1):=ed.extBut i.extBut ap.TOi2.symm;have zl:z<he.objs.size:=aB ge;refine aa (m:=f7 (.ref z) (.ref he.objs.size)) ?_;unfold f7;have gf:iC (he.push {cls:=.type "tuple",data:=.seq #[u,v]}) z ti to .ellipsis:=ah _ ge;refine aa (bK gf (by simp) λhg gg sg=>?_)
 have Y:iC hg z ti to (fq he.objs.size):=gg;refine bK Y (by simp) λJ gh sh=>?_
 have B:iC J z ti to (fq he.objs.size):=gh;have lift:∀c o,c≠z->he.get? c=some o->J.get? c=some o:=λc o n x=>sh.extBut _ _ n (sg.extBut _ _ n (ah _ x));have new:e7 J he.objs.size u v:=sh.extBut _ _ (Nat.ne_of_gt zl) (sg.extBut _ _ (Nat.ne_of_gt zl) (av _ rfl));rw[size] at B new;refine af ⟨_,rfl,?_⟩;show R (.ref he.objs.size) _;rw[size];exact k J B (lift _ _ ap.TOz j) (f1.at λo x=>lift _ o ap.i1z x) (f2.at λo x=>lift _ o ap.i2z x) new λc o G D U O x=>lift c o G (stay c o G D U O x)
theorem fJ7{R:Fin->aj->Prop}(hh:A.handled=none)(ap:ZipApart z ti to j1 j2 t1 t2)(g:iC s.heap z ti to .none)(gi:e7 s.heap ti (.ref j1) (.ref j2))(go:e7 s.heap to p q)
  (e1:s.heap.IsTupleIter j1 t1 m) (e2:s.heap.IsTupleIter j2 t2 m) (b1:s.heap.IsTuple t1 us) (b2:s.heap.IsTuple t2 vs) (no:us[m]?=none\/vs[m]?=none)
  (k:∀h' e,(∀c o,c≠z->c≠to->c≠j1->c≠j2->s.heap.get? c=some o->h'.get? c=some o)->(∃o,h'.get? e=some o/\o.cls=.type "StopIteration")->E (.ref e) {s with heap:=h'}) :
  aH (aF prog w) A (cI.«zip.__next__» ⟨[.ref z],[]⟩) R E s:=by
 refine aa (m:=field (.ref z) 2) (cR g rfl (x:=.bool false) rfl (aa (m:=field (.ref z) 3) (cR g rfl (x:=.ref ti) rfl (aa (cA gi rfl ?_)))));refine aa (m:=du (.ref z)) ?_;unfold du;refine aa (cR g rfl (x:=.none) rfl (af ?_));simp only[if_true];refine aa (db (aa (cR g rfl (x:=.ref to) rfl (aa (bK g (by simp) λha ga sa=>?_)))))
 have D:iC ha z ti to .ellipsis:=ga;refine aa ?_;simp only[jL,List.zipIdx_nil,eQ,kj];have last:∀(h2:bj) (e:Addr),iC h2 z ti to .ellipsis->(∀c o,c≠z->c≠to->c≠j1->c≠j2->s.heap.get? c=some o->h2.get? c=some o)->(∃o,h2.get? e=some o/\o.cls=.type "StopIteration")->∀J,dI z h2 J->E (.ref e) {s with heap:=J}:=λh2 e g2 st ⟨o,ho,B⟩ J s3 =>
  have ne:e≠z:=λx=>by subst x;rw[g2] at ho;cases ho;simp at B
  k J e (λc o i O j L x=>s3.extBut _ _ i (st c o i O j L x)) ⟨o,s3.extBut _ _ ne ho,B⟩
 cases hu:us[m]? with
 |none =>
  refine aa (aa (ip (aa (m:=cO (.ref j1)) (cQo hh (e1.extBut sa.extBut ap.i1z) (b1.extBut sa.extBut ap.l1z) hu λG e d ex=>?_))));have Y:iC G z ti to .ellipsis:=d _ _ ap.i1z.symm D;exact bK Y (by simp) λB _ sc=>last G e Y (λc o i _ j _ x=>d _ _ j (sa.extBut _ _ i x)) ex B sc
 |some u =>
  have hv:vs[m]?=none:=no.elim (λx=>by rw[hu] at x;cases x) id
  refine aa (aa (ip (aa (m:=cO (.ref j1)) (bZp (e1.extBut sa.extBut ap.i1z) (b1.extBut sa.extBut ap.l1z) hu λG eb d=>af ?_))));have U:e7 G to p q:=d.extBut _ _ ap.TOi1 (sa.extBut _ _ ap.TOz go);refine aa (cA U rfl (aa (ir U λB oc sc=>aa (gE (af ?_)))));refine aa (aa (ip (aa (m:=cO (.ref j2)) (cQo hh (((e2.extBut sa.extBut ap.i2z).extBut d.extBut ap.i12.symm).extBut sc.extBut ap.TOi2.symm) (((b2.extBut sa.extBut ap.l2z).extBut d.extBut ap.l2i1).extBut sc.extBut ap.l2TO) hv λhd e sd ex=>?_))));have gd:iC hd z ti to .ellipsis:=sd _ _ ap.i2z.symm (sc.extBut _ _ ap.TOz.symm (d.extBut _ _ ap.i1z.symm D));exact bK gd (by simp) λhe _ Z=>last hd e gd (λc o i O j L x=>sd _ _ L (sc.extBut _ _ O (d.extBut _ _ j (sa.extBut _ _ i x)))) ex he Z
theorem eJi{u v:ad}{R:Option ad->aj->Prop}(ap:ZipApart z ti to j1 j2 t1 t2)(g:iC s.heap z ti to .none)(gi:e7 s.heap ti (.ref j1) (.ref j2))(go:e7 s.heap to p q)
  (e1:s.heap.IsTupleIter j1 t1 m) (e2:s.heap.IsTupleIter j2 t2 m) (b1:s.heap.IsTuple t1 us) (b2:s.heap.IsTuple t2 vs) (hu:us[m]?=some u) (hv:vs[m]?=some v)
  (k:∀ h',iC h' z ti to (fq s.heap.objs.size)->e7 h' to u v->h'.IsTupleIter j1 t1 (m + 1)->h'.IsTupleIter j2 t2 (m + 1)->e7 h' s.heap.objs.size u v ->
   (∀c o,c≠z->c≠to->c≠j1->c≠j2->s.heap.get? c=some o->h'.get? c=some o)->R (some (.ref s.heap.objs.size)) {s with heap:=h'}):aH (aF prog w) A (ff (.ref z)) R E s:=by
 have ty:s.TypeIs (.ref z) "zip":=⟨_,g,rfl⟩;exact aa (gj (cj (name:=aP "__next__") ty F.slot_zip_next (b9 F.slot_zip_next ty F.entry_zip_next (eJh ap g gi go e1 e2 b1 b2 hu hv λh' G D B j i d=>af (k h' G D B j i d)) (F.args_zip_next_1 _))))
theorem eJj{R:Option ad->aj->Prop}(hh:A.handled=none)(ap:ZipApart z ti to j1 j2 t1 t2)(g:iC s.heap z ti to .none)(gi:e7 s.heap ti (.ref j1) (.ref j2))(go:e7 s.heap to p q)
  (e1:s.heap.IsTupleIter j1 t1 m) (e2:s.heap.IsTupleIter j2 t2 m) (b1:s.heap.IsTuple t1 us) (b2:s.heap.IsTuple t2 vs) (no:us[m]?=none\/vs[m]?=none)
  (k:∀h',(∀c o,c≠z->c≠to->c≠j1->c≠j2->s.heap.get? c=some o->h'.get? c=some o)->R none {s with heap:=h'}):aH (aF prog w) A (ff (.ref z)) R E s:=by
 have ty:s.TypeIs (.ref z) "zip":=⟨_,g,rfl⟩;refine aa (gj (cj (name:=aP "__next__") ty F.slot_zip_next (b9 F.slot_zip_next ty F.entry_zip_next (fJ7 hh ap g gi go e1 e2 b1 b2 no λh' e st ⟨o,d,i⟩=>?_) (F.args_zip_next_1 _))));exact aa (fT (T:="StopIteration") (b:=true) ⟨o,d,i⟩ iY (af (k _ st)))
abbrev tiO(t:Addr):Obj:={cls:=.type "tuple_iterator",data:=.fields #[.ref t,.int 0 0]}
abbrev zt2(h:bj)(a b:Addr):bj:=(h.push (tiO a)).push (tiO b)
abbrev zt3(h:bj)(a b:Addr):bj:=(zt2 h a b).push {cls:=.type "tuple",data:=.seq #[.ref h.objs.size,.ref (h.push (tiO a)).objs.size]}
abbrev zt4(h:bj)(a b:Addr):bj:=(zt3 h a b).push {cls:=.type "tuple",data:=.seq #[.none,.none]}
abbrev zt5(h:bj)(a b:Addr):bj:=(zt4 h a b).push {cls:=.type "zip",data:=.fields #[.none,.bool false,.bool false,.ref (zt2 h a b).objs.size,.ref (zt3 h a b).objs.size]}
theorem fJ8(a b:Addr)(us vs:Array ad):Meets (cI.«zip.__new__» ⟨[.type "zip",.ref a,.ref b],[]⟩) (λ_ R s=>(s.heap.IsTuple a us/\s.heap.IsTuple b vs)/\R (.ok (.ret (.ref (zt4 s.heap a b).objs.size))) {s with heap:=zt5 s.heap a b}) :=
 .of_wp λprog w A R s D=>by
  obtain⟨⟨O,L⟩,k⟩:=D;obtain⟨j,g,d,i,os⟩:=s;have B:=sub_zip;have J:jX (aj.heap ⟨j,g,d,i,os⟩) a us:=O;have G:jX (aj.heap ⟨j.push (tiO a),g,d,i,os⟩) b vs:=jX.at L λo x=>ah _ x
  wp_walk using eJ J,eJ G
  exact⟨_,rfl,k⟩
theorem eJk{a b:Addr}{R:ad->aj->Prop}(b1:s.heap.IsTuple a us)(b2:s.heap.IsTuple b vs)
  (k:∀ h',iC h' (s.heap.objs.size + 4) (s.heap.objs.size + 2) (s.heap.objs.size + 3) .none->e7 h' (s.heap.objs.size + 2) (.ref s.heap.objs.size) (.ref (s.heap.objs.size + 1))->e7 h' (s.heap.objs.size + 3) .none .none ->
   h'.IsTupleIter s.heap.objs.size a 0->h'.IsTupleIter (s.heap.objs.size+1) b 0->(∀c o,s.heap.get? c=some o->h'.get? c=some o)->R (.ref (s.heap.objs.size+4)) {s with heap:=h'}):aH (aF prog w) A (call (.type "zip") [.ref a,.ref b]) R E s:=by
 refine callType_new F.called_zip (by decide) (F.typeCall_zip_2 _ _) (F.newCall_zip_2 _ _) (λobj=>F.args_object_init_3 obj _ _) F.entry_zip_new (fJ8 a b us vs) ⟨⟨b1,b2⟩,?_⟩
 have up:∀{h:bj}{o:Obj}{c:Addr}{x:Obj},h.get? c=some x->(h.push o).get? c=some x:=λx=>ah _ x;have s1:(s.heap.push (tiO a)).objs.size=s.heap.objs.size+1:=cx ..;have s2:(zt2 s.heap a b).objs.size=s.heap.objs.size+2:=by rw[cx,s1]
 have s3:(zt3 s.heap a b).objs.size=s.heap.objs.size+3:=by rw[cx,s2]
 have s4:(zt4 s.heap a b).objs.size=s.heap.objs.size+4:=by rw[cx,s3]
 have d:(zt5 s.heap a b).get? (zt4 s.heap a b).objs.size=some _:=av _ rfl;have i:(zt5 s.heap a b).get? (zt3 s.heap a b).objs.size=some _:=up (av _ rfl);have j:(zt5 s.heap a b).get? (zt2 s.heap a b).objs.size=some _:=up (up (av _ rfl));have B:(zt5 s.heap a b).get? (s.heap.push (tiO a)).objs.size=some _:=up (up (up (av _ rfl)));have D:(zt5 s.heap a b).get? s.heap.objs.size=some _:=up (up (up (up (av _ rfl))));show _/\_;rw[s2,s3,s4] at d;rw[s1,s2] at j;rw[s3] at i;rw[s1] at B;rw[s4];exact⟨⟨_,d,rfl⟩,k _ d j i ⟨_,D,rfl,rfl⟩ ⟨_,B,rfl,rfl⟩ λc o x=>up (up (up (up (up x))))⟩
end
def ItzT(K:Fg)(a b:Addr):It:=⟨λi H=>∃ xs ys x y,SqT K H a xs/\SqT K H b ys/\xs[i]?=some x/\ys[i]?=some y,λi H x H'=>∃ p y z,H p=none/\x=.ref p/\H'=upd H p (.tup [y,z])/\(∀ xs,SqT K H a xs->xs[i]?=some y)/\∀ ys,SqT K H b ys->ys[i]?=some z,
 λi H=>∃xs ys,SqT K H a xs/\SqT K H b ys/\(xs.length<=i\/ys.length<=i)⟩
def zstT(z TI TO i1 i2 a b:Addr)(i:Nat)(h:bj):Prop:=iC h z TI TO .none/\e7 h TI (.ref i1) (.ref i2)/\(∃u v,e7 h TO u v)/\h.IsTupleIter i1 a i/\h.IsTupleIter i2 b i
theorem cZm{z TI TO i1 i2 a b c:Addr}{i:Nat}{h:bj}(st:zstT z TI TO i1 i2 a b i h)(hc:c∈[z,TI,TO,i1,i2]):∃o,h.get? c=some o/\∀v,o.data≠.cell v:=by
 obtain⟨J,G,⟨u,v,D⟩,⟨Y,j,O,B⟩,⟨U,d,L,hd2⟩⟩:=st;simp only[aA,c9,or_false] at hc;rcases hc with rfl|rfl|rfl|rfl|rfl
 ·exact⟨_,J,λv z=>by cases z⟩
 ·exact⟨_,G,λv z=>by cases z⟩
 ·exact⟨_,D,λv z=>by cases z⟩
 ·exact⟨_,j,λv z=>by rw[B] at z;cases z⟩
 ·exact⟨_,d,λv z=>by rw[hd2] at z;cases z⟩
theorem dQr{P:aD}{w:aR}{K:Fg}{elts:List Expr}{x1:Nat}{pos:Pos}(z TI TO i1 i2 a b:Addr)(D:ZipApart z TI TO i1 i2 a b):Turn P w K (.Tuple elts x1 pos) (ItzT K a b) [z,TI,TO,i1,i2] z (zstT z TI TO i1 i2 a b) where
 mem:=by simp
 obj:=λi h st c U=>cZm st U
 keep:=λi h h' st k=>by
  obtain⟨hz,J,⟨u,v,O⟩,⟨o1,ho1,r1⟩,⟨o2,ho2,r2⟩⟩:=st;exact⟨k z (by simp) _ hz,k TI (by simp) _ J,⟨u,v,k TO (by simp) _ O⟩,⟨o1,k i1 (by simp) _ ho1,r1⟩,⟨o2,k i2 (by simp) _ ho2,r2⟩⟩
 item:=by
  intro X hP hw hK U i pins s σ H E I hf st hg;subst hP hw hK;have sto:=λc U=>cZm (c:=c) st U;obtain⟨xs,ys,x,y,Z,Y,hx,hy⟩:=hg;obtain⟨its,rv,p1,hz1⟩:=I.tuple Z;obtain⟨jts,rw',p2,hz2⟩:=I.tuple Y;obtain⟨u,hu,ru⟩:=rv.get hx;obtain⟨v,hv,rv'⟩:=rw'.get hy;obtain⟨hz,J,⟨t1,t2,O⟩,st1,st2⟩:=st;refine eJi D hz J O st1 st2 p1 p2 (by simpa using hu) (by simpa using hv) λh' a1 a2 a3 a4 a5 hk=>⟨_,rfl,?_⟩
  refine wpAny_letOwnedTupleGo_zip a1 λh2 hz2' G=>?_;have L:∀c o,c∉[z,TI,TO,i1,i2]->s.heap.get? c=some o->h2.get? c=some o:=λc o n g=>(G.2 c (by simp at n;exact n.1)).trans (hk c o (by simp at n;exact n.1) (by simp at n;exact n.2.2.1) (by simp at n;exact n.2.2.2.1) (by simp at n;exact n.2.2.2.2) g)
  have hzl:z<s.heap.objs.size:=aB hz;have d:H s.heap.objs.size=none:=I.hok.fresh (Nat.le_refl _);have nT:∀c o,s.heap.get? c=some o->c≠s.heap.objs.size:=λc o g=>Nat.ne_of_lt (aB g);have nH:∀c u,H c=some u->c∉[z,TI,TO,i1,i2]:=λc u g U=>by have:=(hf c U).1;rw[g] at this;cases this
  have tupT:h2.get? s.heap.objs.size=some {cls:=.type "tuple",data:=.seq #[u,v]}:=(G.2 _ (Nat.ne_of_gt hzl)).trans a5;have hok:HOk X.prog X.w (upd H s.heap.objs.size (.tup [x,y])) h2:=λc ob g=>by
   by_cases j:c=s.heap.objs.size
   ·subst j;rw[aQ9] at g;cases g;refine⟨by rw[bu];show 2<=_;decide,[u,v],.cons ru (.cons rv' .nil),⟨_,tupT,rfl,0,rfl⟩,λo e=>by rw[tupT] at e;cases e;rfl⟩
   ·rw[upd_ne j] at g;refine(I.hok c ob g).stay (λe w' B q=>?_) (λe q=>?_) λe ys q=>?_
    ·rcases B with rfl|B
     ·exact L _ _ (nH _ _ g) q
     ·exact L _ _ (nH _ _ B) q
    ·rw[upd_ne (aQ8 q d)];exact q
    ·rw[upd_ne (aQ8 q d)];exact q
  have un:Un (frs X.stack) [z,TI,TO,i1,i2] H (upd H s.heap.objs.size (.tup [x,y])) s.heap h2 :=
   ⟨λc o g _ _ j=>L c o j g,λc o g _ _ j=>⟨o.slots,L c o j g⟩,λc o g n _=>by rw[upd_ne (nT c o g)];exact n,λc o g j=>⟨o,L c o j g⟩,
    λc ys g=>by rw[upd_ne (aQ8 g d)];exact g,λc o v g=>by rw[upd_ne (aQ8 g d)];exact g,λc ps g=>⟨#[],by rw[upd_ne (aQ8 g d),g];simp⟩⟩
  have I2:Inv X pins σ (upd H s.heap.objs.size (.tup [x,y])) {s with heap:=h2}:=I.call' (s':={s with heap:=h2}) rfl un hok I.bare λc j=>by
   have fe:=hf c j;exact⟨fe.2.2.2.1,fe.2.1,fe.2.2.2.2.1,fe.2.2.2.2.2⟩
  refine⟨.ref s.heap.objs.size,_,I2,rfl,⟨_,x,y,d,rfl,rfl,λys hy=>by rw[I.tuple_inj hy Z];exact hx,λys hy'=>by rw[I.tuple_inj hy' Y];exact hy⟩,⟨hz2',?_,⟨u,v,?_⟩,?_,?_⟩,λc j=>?_⟩
  ·exact(G.2 TI D.TIz).trans (hk TI _ D.TIz D.TITO D.TIi1 D.TIi2 J)
  ·exact(G.2 TO D.TOz).trans a2
  ·obtain⟨o,g,r⟩:=a3;exact⟨o,(G.2 i1 D.i1z).trans g,r⟩
  ·obtain⟨o,g,r⟩:=a4;exact⟨o,(G.2 i2 D.i2z).trans g,r⟩
  ·obtain⟨o,g,_⟩:=sto c j;rw[upd_ne (Nat.ne_of_lt (aB g))];exact(hf c j).1
 done:=by
  intro X hP hw hK U i pins s σ H E I hf st hg;subst hP hw hK;obtain⟨xs,ys,Z,Y,hx⟩:=hg;obtain⟨its,rv,p1,hz1⟩:=I.tuple Z;obtain⟨jts,rw',p2,hz2⟩:=I.tuple Y;obtain⟨hz,J,⟨t1,t2,O⟩,st1,st2⟩:=st;have hh:X.A.in1.handled=none:=by have:=I.ok.hd U;simp[this]
  have l1:=rv.length;have l2:=rw'.length;refine eJj (hh) D hz J O st1 st2 p1 p2 (by rcases hx with h|h;exact .inl (by simp;omega);exact .inr (by simp;omega)) λh' hk=>⟨rfl,?_⟩
  have L:∀c o,c∉[z,TI,TO,i1,i2]->s.heap.get? c=some o->h'.get? c=some o:=λc o n g=>hk c o (by simp at n;exact n.1) (by simp at n;exact n.2.2.1) (by simp at n;exact n.2.2.2.1) (by simp at n;exact n.2.2.2.2) g
  have nH:∀c u,H c=some u->c∉[z,TI,TO,i1,i2]:=λc u g U=>by have:=(hf c U).1;rw[g] at this;cases this
  have hok:HOk X.prog X.w H h':=λc ob g=>(I.hok c ob g).stay (λe w' B q=>by
    rcases B with rfl|B
    ·exact L _ _ (nH _ _ g) q
    ·exact L _ _ (nH _ _ B) q) (λe q=>q) λe ys q=>q
  have un:Un (frs X.stack) [z,TI,TO,i1,i2] H H s.heap h' :=
   ⟨λc o g _ _ j=>L c o j g,λc o g _ _ j=>⟨o.slots,L c o j g⟩,λc o g n _=>n,λc o g j=>⟨o,L c o j g⟩,λc ys g=>g,λc o v g=>g,λc ps g=>⟨#[],by rw[g];simp⟩⟩
  exact I.call' (s':={s with heap:=h'}) rfl un hok I.bare λc j=>by
   have fe:=hf c j;exact⟨fe.2.2.2.1,fe.2.1,fe.2.2.2.2.1,fe.2.2.2.2.2⟩
 self:=λA i s Q E st h=>wpAny_pyIter_zip st.1 h
section
variable{X:Cx}
def gQt(K:Fg)(ta:TA):TI:=fun σ H R=>ta σ H λvs H1=>∃a b,vs=[.ref a,.ref b]/\(∃xs,SqT K H1 a xs)/\(∃ys,SqT K H1 b ys)/\R (ItzT K a b) H1
theorem eJl{e f:Expr}{ta:TA}{p pos:Pos}{elts:List Expr}{x1:Nat}{tpos:Pos}{K:Fg}(hg:Gl X "zip")(hm:X.mg "zip"=none)(ha:PA X [e,f] ta)(hs:au [e,f] X.env=[(false,eval e X.env),(false,eval f X.env)]:=by rfl)(hs2:au [f] X.env=[(false,eval f X.env)]:=by rfl)(hK:X.K=K:=by rfl) :
  PI X (.Tuple elts x1 tpos) (.Call (.Name "zip" p) [e,f] [] pos) (gQt K ta):=by
 subst hK;intro pins s σ H R I h;refine Call_ (ld_blt I hg hm PyProof.Rows.boot_zip (cT (thn (ha pos pins s σ H _ I h) λus s1 ⟨vs,H1,i,r1,q1⟩=>?_) (by rw[hs,hs2]) (by rw[hs2];rfl)))
 obtain⟨a,b,rfl,⟨xs,D⟩,⟨ys,B⟩,q⟩:=q1;cases r1 with
 |cons r rr =>
  cases rr with
  |cons r' rr =>
   cases rr;cases r;cases r';obtain⟨its,rv,pl,j⟩:=i.tuple D;obtain⟨jts,Z,d,hz'⟩:=i.tuple B;have J:a<s1.heap.objs.size:=by obtain⟨o,e,_⟩:=id pl;exact aB e
   have G:b<s1.heap.objs.size:=by obtain⟨o,e,_⟩:=id d;exact aB e
   refine eJk pl d λh' j O L h1 h2 hk=>wpAny_pyIter_zip j ?_;refine⟨s1.heap.objs.size+4,[s1.heap.objs.size+4,s1.heap.objs.size+2,s1.heap.objs.size+3,s1.heap.objs.size,s1.heap.objs.size+1],_,_,H1,rfl,i.kept (t':=s1.toks) hk,dQr _ (s1.heap.objs.size+2) (s1.heap.objs.size+3) s1.heap.objs.size (s1.heap.objs.size+1) a b ?_,⟨j,O,⟨_,_,L⟩,h1,h2⟩,λc Y=>?_,q⟩
   ·exact zipApart_new J G
   ·have U:s1.heap.objs.size<=c:=by
     simp only[aA,c9,or_false] at Y;rcases Y with rfl|rfl|rfl|rfl|rfl
     ·exact Nat.le_add_right _ _
     ·exact Nat.le_add_right _ _
     ·exact Nat.le_add_right _ _
     ·exact Nat.le_refl _
     ·exact Nat.le_add_right _ _
    exact i.fpOk U (i.hok.fresh U)
end
section
variable{X:Cx}{K:Fg}{pos:Pos}
theorem dXq{F:Am}{S:Sto}{H:Hp}{p q:Addr}{xs ys:List D}{us vs:List V}{G:Sto->Prop}(t:TupAt K (mt S F) H p us)(l:RepL K (mt S F) H xs us)(t':TupAt K (mt S F) H q vs)(l':RepL K (mt S F) H ys vs):ItOk K F S H (ItzT K p q) (zipD xs ys) G where
 go:=λF2 f S2 H2 x J _ i d hd=>by
  obtain⟨e1,e2,h1,h2,rfl⟩:=bX3 xs ys i d hd;obtain⟨v1,g1,B⟩:=l.get h1;obtain⟨v2,g2,j⟩:=l'.get h2;have s1:SqT K H2 p us:=(t.keep (x.kpF f)).sq;have s2:SqT K H2 q vs:=(t'.keep (x.kpF f)).sq;refine⟨⟨us,vs,v1,v2,s1,s2,g1,g2⟩,λz H3 ⟨b,y,y',U,Y,Z,O,L⟩=>?_⟩;subst Y;subst Z
  have:=O us s1
  rw[g1] at this;cases this
  have:=L vs s2
  rw[g2] at this;cases this;exact dZz J U (B.keep (x.kpF f)) (j.keep (x.kpF f))
 stop:=λF2 f S2 H2 x J _=>⟨us,vs,(t.keep (x.kpF f)).sq,(t'.keep (x.kpF f)).sq,by rw[cZ2,l.length,l'.length];omega⟩
def gQu(ta:AD):ID:=fun Γ S Q=>ta Γ S λds S1=>match ds with
 |[.tup xs,.tup ys]=>Q (zipD xs ys) (λ_=>True) S1
 |_=>False
theorem eJm{e f:Expr}{ta:AD}{p:Pos}{elts:List Expr}{x1:Nat}{tpos:Pos}(hg:Gl X "zip")(hm:X.mg "zip"=none)(ha:PAD K X [e,f] ta)(hs:au [e,f] X.env=[(false,eval e X.env),(false,eval f X.env)]:=by rfl)(hs2:au [f] X.env=[(false,eval f X.env)]:=by rfl)(hK:X.K=K:=by rfl) :
  PID K X (.Tuple elts x1 tpos) (.Call (.Name "zip" p) [e,f] [] pos) (gQu ta):=.of (eJl hg hm ha.o hs hs2 hK) fun σ H Q G=>G.el λF S Γ QD r g q c =>
 ⟨F,S,Γ,_,r,g,q,λvs ds H1 O x1 J v1 j=>by
  match ds,j with
  |[.tup xs,.tup ys],j =>
   obtain⟨v,w,rfl,D,d⟩:=v1.two;unfold RepV at D d;obtain⟨p,us,rfl,t,l⟩:=D;obtain⟨q,i,rfl,B,L⟩:=d;exact⟨p,q,rfl,⟨us,t.sq⟩,⟨i,B.sq⟩,c _ _ _ _ _ x1 J (dXq t l B L) j⟩⟩
end
end L2
namespace Toy
open PySem L2
abbrev s_law_same:Stmt:=top 21
theorem sc_law_same:FnScope ["found", "due"] ["found", "due"] (aQ5 s_law_same):=fsc
def trD:Nat->D->Prop
 |_,.non=>True
 |_,.str _=>True
 |_,.int _=>True
 |n+1,.tup xs=>xs.length<=9999/\∀x∈xs,trD n x
 |_,_=>False
theorem eJn{t:List Str}(h:t.length<=9999):trD 1 (tupS t):=⟨by rw[ae];exact h,λx d=>by obtain⟨s,_,rfl⟩:=aV.mp d;exact trivial⟩
theorem dXr{ts:List (List Str)}(h:ts.length<=9999)(h':∀t∈ts,t.length<=9999):trD 2 (.tup (ts.map tupS)):=⟨by rw[ae];exact h,λx d=>by obtain⟨t,i,rfl⟩:=aV.mp d;exact eJn (h' t i)⟩
def bXa(n:Nat):SpD:=λds S Q=>∃(m:Nat) (d:D),ds=[d,d]/\m<n/\m<=6/\trD m d/\Q (.bl true) S
def bQv:SpD:=bXa 7
section
variable{P:aD}{w:aR}{K:ax}{mg:Str->Option ad}{base:bj}{pt cc:Addr}
theorem dQs{k n:Nat}(T:Tx K mg "_law_same" s_law_same)(B:Bs mg)(d_law_same:Df P w K mg base k "_law_same" ["found", "due"] (spU K (bXa n))):Df P w K mg base (k+1) "_law_same" ["found", "due"] (spU K (bXa (n+1))):=by
 refine aX1 T sc_law_same (λF=>F.binds λ_ _ _ _ _ _=>us2 λ_ _=>rfl) ?_ λf U A outer s H E D=>⟨_,(aQ2 (aXa (gQ4 D (dv 1) fZf) (aQ3 (aQi (e_is D (dv 0) fZf))) aQu)
  (aQ2 (aXa (aZl (cX0 rfl B.isinstance (aQ0 (dv 1) (aQ0 (e_ty rfl B.tuple bZh) aQ1)))) (aQ2 (aXa (PWD.pt (eZs (bQi (aZl (cX0 rfl B.isinstance (aQ0 (dv 0) (aQ0 (e_ty rfl B.tuple bZh) aQ1))))) (cJn (fZn D (aXn rfl B.len (aQ0 (dv 0) aQ1)) (aXn rfl B.len (aQ0 (dv 1) aQ1)))))) (aQ3 (aQi e_bl)) aQu)
  (aQ3 (aQi (e_eq D (aZ8 (N':=["one", "other"]) (oc:=none) (b:=false) [0,1] [] rfl sc_law_same.nd (λ_ _ _=>aQe ..) (.own (.own .nil)) (aQh rfl) (eJm rfl B.zip (aQ0 (dv 0) (aQ0 (dv 1) aQ1))) (bQl (i:=0) (j:=1)) (λ_ _ _ _ _=>bZ0 rfl (aZ5 (aQb (i:=0) (nd_ ["one", "other"]) rfl (aY rfl) (.inr rfl)) (aZ5 (aQb (i:=1) (nd_ ["one", "other"]) rfl (aY rfl) (.inr rfl)) aJb))) (λ_ _ _ _ _=>aQv (by exact(bQi (aZl (aQ4 d_law_same D rfl (aQ0 (dv 0) (aQ0 (dv 1) aQ1))))))) aQl (λ_ _ _ _ _ _=>aQk rfl (by exact PD.o aQ6))) (aZr (b:=false) aQ1))))) aQu)
  (aQ2 (aXa (aZl (cX0 rfl B.isinstance (aQ0 (dv 1) (aQ0 (e_ty rfl B.str dXy) aQ1)))) (aQ3 (aQi (dZr (cX0 rfl B.isinstance (aQ0 (dv 0) (aQ0 (e_ty rfl B.str dXy) aQ1))) (eZr (e_eq D (dv 0) (dv 1)))))) aQu)
  (aQ3 (aQi (dZr (cX0 rfl B.isinstance (aQ0 (dv 0) (aQ0 (e_ty rfl B.int dXx) aQ1))) (dZr (gQ7 (cX0 rfl B.isinstance (aQ0 (dv 0) (aQ0 (e_ty rfl B.bool eQp) aQ1)))) (eZr (e_eq D (dv 0) (dv 1)))))))))),?_⟩
 ·rintro ds S Q ⟨m,d,rfl,_⟩;rfl
 ·rintro ds S Q ⟨m,d,rfl,hm,Y,G,q⟩;cases d with
  |non=>exact⟨_,rfl,ite2 (λ_=>aQj q) λc=>absurd rfl c⟩
  |str x =>
   refine⟨_,rfl,ite2 (λc=>by cases c) λ_=>⟨_,_,rfl,rfl,_,_,rfl,rfl,_,_,rfl,rfl,_,rfl,rfl,?_⟩⟩
   rw[dXd rfl];exact aQj q
  |int i =>
   refine⟨_,rfl,ite2 (λc=>by cases c) λ_=>⟨_,_,rfl,rfl,_,_,rfl,rfl,_,_,rfl,rfl,_,rfl,_,_,rfl,rfl,_,rfl,_,rfl,rfl,?_⟩⟩
   rw[dXd rfl];exact aQj q
  |tup xs =>
   cases m with
   |zero=>exact G.elim
   |succ m =>
    refine⟨_,rfl,ite2 (λc=>by cases c) λ_=>⟨_,_,rfl,rfl,_,_,rfl,rfl,_,rfl,_,rfl,rfl,_,fXv rfl,?_⟩⟩
    refine aZ7 (λ_ acc S'=>acc=[]/\S'=S) ⟨rfl,rfl⟩ ?_ ?_
    ·rintro i x acc S' N L ⟨rfl,rfl⟩ O;obtain⟨y,z,J,hz,rfl⟩:=bX3 _ _ _ _ L;rw[J] at hz;cases hz;exact⟨trivial,rfl,rfl,m,y,rfl,by omega,by omega,G.2 y (ak J),O _ _ ⟨rfl,rfl⟩⟩
    ·rintro acc S' ⟨rfl,rfl⟩;exact⟨trivial,aQd (by decide),rfl,aQj q⟩
  |bl _=>cases m <;> exact G.elim
  |ty _=>cases m <;> exact G.elim
  |ref _=>cases m <;> exact G.elim
  |lst _=>cases m <;> exact G.elim
theorem cZn(T:Tx K mg "_law_same" s_law_same)(B:Bs mg):∀n:Nat,Df P w K mg base (1+n) "_law_same" ["found", "due"] (spU K (bXa n))
 |0=>T.df (λF=>F.binds λ_ _ _ _ _ _=>us2 λ_ _=>rfl) λF=>F.ok sc_law_same (λvs H Q E ⟨_,_,_,_,_,_,⟨_,_,_,h,_⟩,_⟩=>absurd h (Nat.not_lt_zero _)) λd A outer s H vs Q j i ⟨_,_,_,_,_,_,⟨_,_,_,h,_⟩,_⟩=>absurd h (Nat.not_lt_zero _)
 |n+1=>dQs T B (cZn T B n)
theorem cQa(T:Tx K mg "_law_same" s_law_same)(B:Bs mg):Df P w K mg base 8 "_law_same" ["found", "due"] (spU K bQv):=by
 exact cZn T B 7
end
abbrev bXb:Stmt:=top 25
theorem sc_law:FnScope ["script", "deck", "turn", "sets", "many", "due"] ["script"] (aQ5 bXb):=fsc
section
variable{P:aD}{w:aR}{K:ax}{mg:Str->Option ad}{base:bj}{pt cc:Addr}
theorem fJ9{f:Addr}{fd:d8}(Fn:Fun K "law" "law" bXb f fd)(B:Bs mg)(d_law_deck:Df P w K mg base 49 "_law_deck" ["script"] (spU K cZf))(d_law_draw:Df P w K mg base 49 "_law_draw" ["deck", "most"] (spU K aXl))(d_law_sets:Df P w K mg base 49 "_law_sets" ["deck", "most", "wide"] (spU K spd_sets))(d_next_level:Df P w K mg base 49 "next_level" ["sets", "many"] (spU K aJ9))(d_law_next:Df P w K mg base 49 "_law_next" ["sets", "many"] (spU K aJa))(d_law_same:Df P w K mg base 49 "_law_same" ["found", "due"] (spU K bQv)):FnOk P w K mg base CX0 50 f fd ["script"] (spU K (cZb 63)):=by
 refine e_fn Fn sc_law ?_ λcdv A outer s H E d=>⟨_,(aQ2 (aQf (i:=1) sc_law.nd rfl (aY rfl) (aQ4 d_law_deck d rfl (aQ0 (dv 0) aQ1)))
  (aQ2 (aZj cb rfl (aZy rfl B.range (aQ0 aQ6 aQ1)) (aQq (i:=2) sc_law.nd rfl (aY rfl)) (aQ2 (aQf (i:=3) sc_law.nd rfl (aY rfl) (aQ4 d_law_sets d rfl (aQ0 (dv 1) (aQ0 (e_ix (aZr (b:=false) (aQ0 aQ6 (aQ0 aQ6 (aQ0 (e_ix (aZr (b:=false) (aQ0 aQ6 (aQ0 aQ6 aQ1))) (dJf rfl B.int (aQ0 (e_eq d (aQ4 d_law_draw d rfl (aQ0 (dv 1) (aQ0 aQ6 aQ1))) aQ6) aQ1))) aQ1)))) (dv 2)) (aQ0 aQ6 aQ1)))))
  (aQ3 (aZj cb rfl (aQz (aZr (b:=false) (aQ0 aQ6 (aQ0 aQ6 (aQ0 (aQw (k:=false) aQ6 (aQ4 d_law_draw d rfl (aQ0 (dv 1) (aQ0 aQ6 aQ1)))) aQ1))))) (aQq (i:=4) sc_law.nd rfl (aY rfl)) (aQ2 (aQf (i:=5) sc_law.nd rfl (aY rfl) (aQ4 d_law_next d rfl (aQ0 (dv 3) (aQ0 (dv 4) aQ1))))
  (aQ3 (aXa (PWD.pt (eZs (bQi (aZl (aQ4 d_law_same d rfl (aQ0 (aQ4 d_next_level d rfl (aQ0 (dv 3) (aQ0 (dv 4) aQ1))) (aQ0 (dv 5) aQ1))))) (cJn (fZn d (aQ4 d_next_level d rfl (aQ0 (dv 3) (aQ0 (dv 4) aQ1))) (dv 5))))) (aQ3 (aQi e_bl)) aQu)))))))
  (aQ3 (aQi (dZr (e_eq d (aQ4 d_next_level d rfl (aQ0 (aJ0 aQ1) (aQ0 aQ6 aQ1))) (aJ0 aQ1)) (eZr (e_eq d (aQ4 d_next_level d rfl (aQ0 (aJ0 (aQ0 (aJ0 (aQ0 aXd aQ1)) (aQ0 (aJ0 (aQ0 aXd aQ1)) aQ1))) (aQ0 aQ6 aQ1))) (aJ0 (aQ0 (aJ0 aQ1) aQ1))))))))),?_⟩
 ·rintro ds S Q ⟨ns,rfl,_⟩;rfl
 ·rintro ds S Q ⟨ns,rfl,h63,hw,hS,q⟩;refine⟨ns,rfl,h63,hw,λa S1 ha _ dk1=>⟨⟨by decide,by decide⟩,?_⟩⟩
  refine aZ0 (λi Γ S'=>∃x2 x3 J G:Option D,Γ=[some (.lst (ns.map D.int)),some (.ref a),x2,x3,J,G]/\DkD S' a (1000*i)) ⟨none,none,none,none,rfl,dk1⟩ ?_ ?_
  ·rintro i x Γ S2 N hx ⟨x2,x3,J,G,rfl,dk2⟩ hN;obtain⟨hi,rfl⟩:=bXx hx;have hi3:i<3:=hi;refine⟨trivial,aQd (by show 2<=9999;decide),a,4,1000*i,rfl,dk2,by omega,by decide,by decide,λr S3 r0 r1 off3 dk3=>⟨rfl,?_⟩⟩
   obtain⟨v,hv,v14⟩:∃v:Nat,atI [D.int 9,.int 14] (if (if false=true then !decide (D.int r=D.int 0) else decide (D.int r=D.int 0))=true then 1 else 0)=some (.int (v:Nat))/\v<=14:=by
    have gen:∀b:Bool,∃v:Nat,atI [D.int 9,.int 14] (if b=true then 1 else 0)=some (.int (v:Nat))/\v<=14:=λb=>by
     cases b with
     |true=>exact⟨14,rfl,by decide⟩
     |false=>exact⟨9,rfl,by decide⟩
    exact gen _
   refine⟨_,_,rfl,hv,aQd (by show 3<=9999;decide),?_⟩
   obtain⟨mo,hmo,m14⟩:∃mo:Nat,atI [D.int 6,.int 9,.int (v:Nat)] ((i:Nat):Int)=some (.int (mo:Nat))/\mo<=14:=by
    have h:i=0\/i=1\/i=2:=by omega
    rcases h with rfl|rfl|rfl
    ·exact⟨6,rfl,by decide⟩
    ·exact⟨9,rfl,by decide⟩
    ·exact⟨v,rfl,v14⟩
   refine⟨_,_,rfl,hmo,a,mo,12,1000*i+1,rfl,dk3,by omega,m14,by decide,by decide,λO S4 hC off4 dk4=>?_⟩
   have sT:=hC.srt;have L:O.length<=14:=Nat.le_trans hC.len m14;have he:=hC.each;have Y:=hC.nms;refine⟨a,5,1000*i+501,rfl,dk4,by omega,by decide,by decide,λr1 S5 r10 r11 off5 dk5=>?_⟩
   obtain⟨k1,rfl⟩:∃k:Nat,r1=k:=⟨r1.toNat,by omega⟩
   refine⟨aQd (by show 3<=9999;decide),_,rfl,?_⟩
   refine aZ0 (λj Γ S'=>∃J G:Option D,Γ=[some (.lst (ns.map D.int)),some (.ref a),some (.int (i:Nat)),some (.tup (O.map tupS)),J,G]/\S'=S5) ⟨_,_,rfl,rfl⟩ ?_ ?_
   ·rintro j x Γ S7 N2 hx ⟨J,G,rfl,rfl⟩ hN2;obtain⟨m,rfl,Z,m6⟩:∃m:Nat,x=.int (m:Nat)/\2<=m/\m<=6:=by
     match j,hx with
     |0,hx=>exact⟨2,(aN hx).symm,by omega,by omega⟩
     |1,hx=>exact⟨3,(aN hx).symm,by omega,by omega⟩
     |2,hx=>exact⟨2+k1,(by rw[<- aN hx];exact congrArg D.int (by omega)),by omega,by omega⟩
     |j+3,hx=>cases hx
    refine⟨trivial,O,m,rfl,L,Z,m6,sT,he,λdue ds1 dl de dm=>?_⟩;refine⟨O,m,rfl,Z,by omega,L,sT,he,Y,λout os om=>?_⟩
    have e:out=due:=os.ext ds1 λr=>(om r).trans (dm r).symm;subst e;refine⟨2,_,rfl,by omega,by omega,dXr (by omega) λt ht=>by have:=de t ht;omega,?_⟩
    refine⟨O,m,rfl,Z,by omega,L,sT,he,Y,λU os2 om2=>?_⟩
    have e:U=out:=os2.ext os λr=>(om2 r).trans (om r).symm;subst e;exact⟨flE.ok 9 _ _ (by decide),false,fXv rfl,hN2 _ _ ⟨_,_,rfl,rfl⟩⟩
   ·rintro Γ S7 ⟨J,G,rfl,rfl⟩;exact⟨trivial,hN _ _ ⟨_,_,_,_,rfl,dk5.mono (by omega)⟩⟩
  ·rintro Γ S2 ⟨x2,x3,J,G,rfl,dk2⟩;have n0:(nms []).length<=0:=aJl (N:=[]) λt ht=>by cases ht
   have c2:ch [[aP "a"],[aP "b"]] 2=[[[aP "a"],[aP "b"]]]:=by decide +kernel
   have cc:coG [[aP "a"],[aP "b"]]=some []:=by decide +kernel
   refine⟨trivial,aQd (by decide),[],2,rfl,by decide,by decide,by decide,.nil,(λt ht=>by cases ht),by omega,λo1 s1 m1=>?_⟩
   have e1:o1=[]:=List.eq_nil_iff_forall_not_mem.mpr λr d=>by
    rcases(m1 r).mp d with⟨s,h,_⟩|⟨h,_⟩
    ·cases h
    ·cases h
   subst e1;refine⟨aQd (by decide),by unfold okE;rw[gy];rfl,true,dXd rfl,?_⟩
   rw[if_pos rfl];refine⟨aQd (by show 1<=9999;decide),aQd (by show 1<=9999;decide),aQd (by show 2<=9999;decide),[[aP "a"],[aP "b"]],2,rfl,by decide,by decide,by decide,by decide +kernel,λt ht=>?_,Nat.le_trans (aJl (N:=[aP "a",aP "b"]) λt ht x hx=>?_) (by decide),λo2 s2 Z=>?_⟩
   ·simp only[aA,c9,or_false] at ht;rcases ht with rfl|rfl
    ·exact⟨bP ..,by decide⟩
    ·exact⟨bP ..,by decide⟩
   ·simp only[aA,c9,or_false] at ht;rcases ht with rfl|rfl <;> simp at hx <;> simp[hx]
   have e2:o2=[[]]:=s2.ext (bP ..) λr=>by
    rw[Z r,c2];simp only[aG];constructor
    ·rintro(⟨s,rfl,h⟩|⟨h,h2⟩)
     ·rw[cc] at h;exact(aN h).symm
     ·exact absurd ⟨_,rfl,h,by rw[cc];rfl⟩ h2
    ·rintro rfl;exact .inl ⟨_,rfl,cc⟩
   subst e2;exact⟨aQd (by decide),aQd (by show 1<=9999;decide),flE.ok 9 [[]] [[]] (by decide),aQj (q _)⟩
end
end Toy
set_option maxHeartbeats 4000000
namespace Toy
open PySem L2
theorem fin{l:PySem.W.OpenLaw}{w:aR}{K:ax}{h:bj}{mg:Str->Option ad}{fa f3:Addr}(X:K.In h)(G:h.Ns bq mg)(hfa:mg "law"=some (.ref fa))(B:Bs mg)(AB:mg "abs"=none)
  (T1:Tx K mg "has_all" s_has_all) (T2:Tx K mg "meets" s_meets) (T3:Tx K mg "meet_of" s_meet_of) (T4:Tx K mg "without_names" s_without_names) (T5:Tx K mg "choices_of" s_choices_of) (T6:Tx K mg "names_of" s_names_of) (T7:Tx K mg "link_of" s_link_of) (T8:Tx K mg "without_row" s_without_row) (T9:Tx K mg "cores_of_two" s_cores_of_two) (T10:Tx K mg "next_level" s_next_level) (T11:Tx K mg "in_flower" s_in_flower) (T12:Tx K mg "so_many_apart" s_so_many_apart) (T13:Tx K mg "_law_deck" s_law_deck) (T14:Tx K mg "_law_draw" s_law_draw) (T15:Tx K mg "_law_names" s_law_names) (T16:Tx K mg "_law_sets" s_law_sets) (T17:Tx K mg "_law_same" s_law_same) (T18:Tx K mg "_law_meet" s_law_meet) (T19:Tx K mg "_law_flowers" s_law_flowers) (T20:Tx K mg "_law_next" s_law_next)
  {od3 an3:Option Addr}{sl3:Array (Option ad)}{oc3 kV3 dc3 pm3 cd3 ct3:ad}
  (a3:bW K bq "law"=some (some (.ref f3))) (l3:K.lookup f3=some ⟨oc3,od3,.func (eT "law" "law" (aXr bXb) (aZp bXb) (aQ5 bXb) .none kV3 dc3 pm3 an3 cd3 ct3),sl3⟩) (c3:gG K cd3 "law"=true) (k3:fH K (.ref f3)=true) :
  ∃fd:d8,(∀(s:aj) (v:ad),BindsTo s fd ⟨[v],[]⟩ [("script",v)])/\∀base:bj,K.In base->base.Ns bq mg->FnOk l.prog w K mg base CX0 50 fa fd ["script"] (spU K (cZb 63)):=by
 have e:=hfa.symm.trans (PySem.W.mg_of X G a3);cases e;refine⟨eT "law" "law" (aXr bXb) (aZp bXb) (aQ5 bXb) .none kV3 dc3 pm3 an3 cd3 ct3,λs v=>.of_eq rfl,λbase XB GB=>?_⟩;have F3:=dXv (st:=bXb) l3 c3 k3;have d_law_deck:=cQ2 (P:=l.prog) (w:=w) (base:=base) T13 B AB;have D:=cQ3 (P:=l.prog) (w:=w) (base:=base) T14 B;have d_law_names:=bJ8 (P:=l.prog) (w:=w) (base:=base) T15 B (D.mono (by decide))
 have d_law_sets:=cQ4 (P:=l.prog) (w:=w) (base:=base) T16 B (D.mono (by decide)) (d_law_names.mono (by decide))
 have d_choices_of:=bX8 (P:=l.prog) (w:=w) (base:=base) T5 B;have L:=cX5 (P:=l.prog) (w:=w) (base:=base) T3 B;have J:=bQs (P:=l.prog) (w:=w) (base:=base) T9 B (d_choices_of.mono (by decide)) (L.mono (by decide))
 have d_meets:=dXe (P:=l.prog) (w:=w) (base:=base) T2 B;have Y:=cX6 (P:=l.prog) (w:=w) (base:=base) T1 B;have d_names_of:=cQ5 (P:=l.prog) (w:=w) (base:=base) T6 B;have d:=aJu (P:=l.prog) (w:=w) (base:=base) T4 B;have j:=bQy (P:=l.prog) (w:=w) (base:=base) T8 B (d_meets.mono (by decide))
 have i:=aJv (P:=l.prog) (w:=w) (base:=base) T12 B (d_meets.mono (by decide)) (Y.mono (by decide)) (d_names_of.mono (by decide)) (d.mono (by decide)) (j.mono (by decide))
 have O:=cX7 (P:=l.prog) (w:=w) (base:=base) T7 B (Y.mono (by decide)) (d.mono (by decide))
 have d_in_flower:=bJ9 (P:=l.prog) (w:=w) (base:=base) T11 B (d.mono (by decide)) (L.mono (by decide)) (O.mono (by decide)) (j.mono (by decide)) (i.mono (by decide))
 have Z:=bX9 (P:=l.prog) (w:=w) (base:=base) T10 B (J.mono (by decide)) (i.mono (by decide)) (O.mono (by decide)) (d_in_flower.mono (by decide))
 have d_law_meet:=cQ7 (P:=l.prog) (w:=w) (base:=base) T18 B;have U:=bQz (P:=l.prog) (w:=w) (base:=base) T19 B (d_law_meet.mono (by decide))
 have d_law_next:=cQ9 (P:=l.prog) (w:=w) (base:=base) T20 B (U.mono (by decide))
 have d_law_same:=cQa (P:=l.prog) (w:=w) (base:=base) T17 B;exact fJ9 F3 B (d_law_deck.mono (by decide)) (D.mono (by decide)) (d_law_sets.mono (by decide)) (Z.mono (by decide)) (d_law_next.mono (by decide)) (d_law_same.mono (by decide))
end Toy
namespace PySem.W.Fast
theorem tw17102985060952702555:True:=⟨⟩
theorem tw17287246922238102582:True:=⟨⟩
theorem tw1290394110727761974:True:=⟨⟩
theorem tw6238727308181451485:True:=⟨⟩
theorem tw11740912537621880342:True:=⟨⟩
theorem tw10201632427363047518:True:=⟨⟩
theorem tw9105718390128686595:True:=⟨⟩
theorem tw13129370210763207284:True:=⟨⟩
theorem tw10356723519311152015:True:=⟨⟩
theorem tw2588333044266505243:True:=⟨⟩
theorem tw7995941354311222578:True:=⟨⟩
theorem tw2975203812226434470:True:=⟨⟩
theorem tw17628950166866183636:True:=⟨⟩
theorem tw3920036331146316373:True:=⟨⟩
end PySem.W.Fast
open PySem PySem.W PyProof.Rows
set_option maxRecDepth 100000 in
set_option maxHeartbeats 0 in
theorem PySem.Challenge.cw_corepetals_k69_next_levels_holds : PySem.Challenge.rw_corepetals_k69_next_levels.Holds := by
 w_on;o_law;k_head;(case hw=>w_witness2)
 k_fill
 refine L2.walkW (l:=PySem.Challenge.rw_corepetals_k69_next_levels) rfl rfl (λw h Y=>PySem.W.kIn_of Y) ?F
 case F =>
  intro w mg fa h KX G hmg;have B:L2.Bs mg:=by
   refine' L2.bs_mk KX G (L2.bs_all ?z1 ?z2 ?z3 ?z4 ?z5 ?z6 ?z7 ?z8 ?z9 ?z10 ?z11 ?z12 ?z13 ?z14 ?z15 ?z16 ?z17) <;> k_is
  have AB:mg "abs"=none:=by
   refine' PySem.W.mg_none_of KX G ?z
   k_is
  have T1:L2.Tx (L2.KOf KX) mg "has_all" Toy.s_has_all:=by
   dsimp only[L2.KOf];exact L2.tx_mk KX G (by k_is) (by k_is) (by k_is) (by k_is)
  have T2:L2.Tx (L2.KOf KX) mg "meets" Toy.s_meets:=by
   dsimp only[L2.KOf];exact L2.tx_mk KX G (by k_is) (by k_is) (by k_is) (by k_is)
  have T3:L2.Tx (L2.KOf KX) mg "meet_of" Toy.s_meet_of:=by
   dsimp only[L2.KOf];exact L2.tx_mk KX G (by k_is) (by k_is) (by k_is) (by k_is)
  have T4:L2.Tx (L2.KOf KX) mg "without_names" Toy.s_without_names:=by
   dsimp only[L2.KOf];exact L2.tx_mk KX G (by k_is) (by k_is) (by k_is) (by k_is)
  have T5:L2.Tx (L2.KOf KX) mg "choices_of" Toy.s_choices_of:=by
   dsimp only[L2.KOf];exact L2.tx_mk KX G (by k_is) (by k_is) (by k_is) (by k_is)
  have T6:L2.Tx (L2.KOf KX) mg "names_of" Toy.s_names_of:=by
   dsimp only[L2.KOf];exact L2.tx_mk KX G (by k_is) (by k_is) (by k_is) (by k_is)
  have T7:L2.Tx (L2.KOf KX) mg "link_of" Toy.s_link_of:=by
   dsimp only[L2.KOf];exact L2.tx_mk KX G (by k_is) (by k_is) (by k_is) (by k_is)
  have T8:L2.Tx (L2.KOf KX) mg "without_row" Toy.s_without_row:=by
   dsimp only[L2.KOf];exact L2.tx_mk KX G (by k_is) (by k_is) (by k_is) (by k_is)
  have T9:L2.Tx (L2.KOf KX) mg "cores_of_two" Toy.s_cores_of_two:=by
   dsimp only[L2.KOf];exact L2.tx_mk KX G (by k_is) (by k_is) (by k_is) (by k_is)
  have T10:L2.Tx (L2.KOf KX) mg "next_level" Toy.s_next_level:=by
   dsimp only[L2.KOf];exact L2.tx_mk KX G (by k_is) (by k_is) (by k_is) (by k_is)
  have T11:L2.Tx (L2.KOf KX) mg "in_flower" Toy.s_in_flower:=by
   dsimp only[L2.KOf];exact L2.tx_mk KX G (by k_is) (by k_is) (by k_is) (by k_is)
  have T12:L2.Tx (L2.KOf KX) mg "so_many_apart" Toy.s_so_many_apart:=by
   dsimp only[L2.KOf];exact L2.tx_mk KX G (by k_is) (by k_is) (by k_is) (by k_is)
  have T13:L2.Tx (L2.KOf KX) mg "_law_deck" Toy.s_law_deck:=by
   dsimp only[L2.KOf];exact L2.tx_mk KX G (by k_is) (by k_is) (by k_is) (by k_is)
  have T14:L2.Tx (L2.KOf KX) mg "_law_draw" Toy.s_law_draw:=by
   dsimp only[L2.KOf];exact L2.tx_mk KX G (by k_is) (by k_is) (by k_is) (by k_is)
  have T15:L2.Tx (L2.KOf KX) mg "_law_names" Toy.s_law_names:=by
   dsimp only[L2.KOf];exact L2.tx_mk KX G (by k_is) (by k_is) (by k_is) (by k_is)
  have T16:L2.Tx (L2.KOf KX) mg "_law_sets" Toy.s_law_sets:=by
   dsimp only[L2.KOf];exact L2.tx_mk KX G (by k_is) (by k_is) (by k_is) (by k_is)
  have T17:L2.Tx (L2.KOf KX) mg "_law_same" Toy.s_law_same:=by
   dsimp only[L2.KOf];exact L2.tx_mk KX G (by k_is) (by k_is) (by k_is) (by k_is)
  have T18:L2.Tx (L2.KOf KX) mg "_law_meet" Toy.s_law_meet:=by
   dsimp only[L2.KOf];exact L2.tx_mk KX G (by k_is) (by k_is) (by k_is) (by k_is)
  have T19:L2.Tx (L2.KOf KX) mg "_law_flowers" Toy.s_law_flowers:=by
   dsimp only[L2.KOf];exact L2.tx_mk KX G (by k_is) (by k_is) (by k_is) (by k_is)
  have T20:L2.Tx (L2.KOf KX) mg "_law_next" Toy.s_law_next:=by
   dsimp only[L2.KOf];exact L2.tx_mk KX G (by k_is) (by k_is) (by k_is) (by k_is)
  refine' Toy.fin KX G hmg B AB T1 T2 T3 T4 T5 T6 T7 T8 T9 T10 T11 T12 T13 T14 T15 T16 T17 T18 T19 T20 ?a ?l ?c ?k
  (case a=>k_is);(case l=>k_is);(case c=>k_is);(case k=>k_is)
