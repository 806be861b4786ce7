import PyProof.Rows.All
import Wide.All
import OpenK.AllK
import Wide.FinOn
import Lean
import PyProof.EqAt
import PyProof.EqKinds
import PyProof.TupleCall
import PySem.SetOps
import KE.KSortTup
import PyProof.Rows.SortShellK
import KE.KDictSum
import PyProof.Rows.StrJoin2
import PyProof.Rows.SumAny
import KE.KxText
import PyProof.ZipIter
import PyProof.Rows.FactsT2
import PyProof.Rows.ZipGen
import PyProof.StrOps2
import PyProof.ListRange
import PyProof.ListStr
import PyProof.FString5
import PyProof.AutoSeq1
import PyProof.MinMaxWalk
import PyProof.WalksMore
import PyProof.Rows.CallKwBuiltin
import KE.KMinKey
import KE.KLam
import PyProof.TupleIter
import Wide.Seal
import PyProof.Rows.BitMore
import KE.KItemsList
import PyProof.AttrMiss
import PyProof.FactsAll.zip_1
import PyProof.FactsAll.zip_0
import KE.KDictOf
import PyProof.Rows.MinMaxN
import PySem.Challenge.RW_corepetals_k13_whole_way_otherwise
open And renaming intro->iL
open Array renaming getElem?_toList->aU,length_toList->aH,perm_iff_toList_perm->cO,size_append->dH,size_push->dj,toList_append->cG,toList_push->cm,toList_reverse->fi,toList_setIfInBounds->ii
open Array.Perm renaming refl->jf
open Bool renaming and_eq_true->bL,eq_false_iff->fW,eq_iff_iff->fH,false_eq_true->bS,false_ne_true->du,not_eq_true'->dg,true_and->iG
open Classical renaming byContradiction->ba
open False renaming elim->db
open ForInStep renaming done->bx,yield->bz
open Int renaming toNat_natCast->bN
open LawfulBEq renaming eq_of_beq->gq
open List renaming Nodup->fK,Perm->jq,all_eq_true->b8,all_map->fY,any_eq_true->dy,any_map->f6,append_assoc->aY,append_nil->br,cons->bZ,drop_append->fx,drop_append_of_le_length->eJ,drop_eq_getElem_cons->cv,drop_eq_nil_of_le->bH,drop_length->eE,drop_zero->jm,eq_nil_of_length_eq_zero->bX,ext_getElem->gx,ext_getElem?->e7,filterMap_cons->eC,filter_congr->f8,filter_cons->fy,filter_eq_self->fB,find?_cons->ci,flatten_append->dh,flatten_singleton->dU,forIn_cons->dJ,forIn_nil->ik,getD_eq_getElem?_getD->am,getElem?_append_left->cU,getElem?_append_right->bR,getElem?_cons_zero->iV,getElem?_eq_getElem->ag,getElem?_eq_none->bV,getElem?_eq_none_iff->ip,getElem?_eq_some_iff->aD,getElem?_map->aK,getElem?_set_ne->fb,getElem?_take_of_lt->iC,getElem_drop->iy,getElem_idxOf->fL,getElem_map->iX,getElem_mem->cS,getElem_of_mem->cg,getElem_take->iz,idxOf_lt_length_of_mem->e8,isEmpty_nil->iR,length->iu,length_append->aG,length_cons->cT,length_drop->bE,length_eq_zero_iff->fO,length_eraseIdx_of_lt->ic,length_filter_le->dr,length_map->ak,length_nil->dM,length_pos_iff->cV,length_range->iB,length_take->a6,length_zip->jg,lookup_cons->cE,lookup_cons_self->gk,map->bq,mapM_toArray->ix,map_append->b9,map_congr_left->dP,map_cons->bg,map_map->a7,map_nil->eP,map_take->jx,mem_append->aN,mem_append_left->c5,mem_append_right->bf,mem_cons->aM,mem_cons_of_mem->ay,mem_cons_self->au,mem_filter->bM,mem_flatten->gz,mem_map->aP,mem_map_of_mem->bA,mem_of_getElem?->ao,mem_of_mem_drop->eA,mem_of_mem_take->cr,mem_range->cz,mem_reverse->iT,mem_singleton->aL,mergeSort_perm->gP,nil_append->a9,nodup_append->dI,nodup_cons->cA,nodup_nil->fk,not_mem_nil->gu,of_mem_zip->fG,pairwise_append->be,pairwise_cons->a8,pairwise_iff_getElem->cw,pairwise_map->bO,pairwise_mergeSort->fQ,pairwise_reverse->gj,pairwise_singleton->bY,perm_append_comm->cY,perm_middle->gv,range->bQ,replicate->g8,reverse_perm->iA,size_toArray->av,take_add_one->cI,take_append_drop->bo,take_append_of_le_length->cu,take_length->dY,take_of_length_le->aZ,take_sublist->dG,take_zero->jl,zipIdx_cons->iU,zip_cons_cons->eQ,zip_nil_left->ez,zip_nil_right->dz
open List.Pairwise renaming imp->jB,imp_of_mem->bK,nil->fV
open List.Perm renaming append_left->d4,append_right->dR,refl->dE
open MonadExcept renaming tryCatch->jo
open Ne renaming symm->dA
open Option renaming getD_none->iJ,isSome_iff_exists->dD,map_eq_some_iff->bB
open Option.some renaming inj->aR
open Or renaming inl->a4,inr->gy
open PyProof.Rows renaming AllBare->ir,IntsAre->gC,Keyed->aJ,SortKind->eD,SortSt->cM,StrsAre->je,arrOf->aO,callWith_type1->dQ,elem'->d3,envOfC->g9,failedOf->fh,get?_update_seq->d8,lt_str->jr,mirror->dq,pairsOf->gH,pairsOf_toList->ij,pendingOf->bC,reverseSlice'_eq->c8,seqObj->b7,setArr->cJ,setPending->fj,slot_tuple_getitem->cb,sortedHeap->gw,wpS_bind->ax,wpS_forRange->bF,wpS_get->gU,wpS_lift->ig,wpS_modify->cN,wpS_mono->c7,wpS_pure->aC
open PyProof.Rows.SortSt renaming mk'->ie
open PySem renaming Around->aW,Builtin->bU,Comprehension->eY,Fin->iW,FuncData->c6,Heap->aX,IsPair->dN,Keyword->gQ,NameKind->eV,Paired->bG,Program->aE,SetTable->cB,Shared->ah,Value->ad,World->aQ,ZipApart->gK,argBest->cW,assign->i7,assignEach->eB,attributeBase->gD,backTo->cq,backToKw->iK,behindInMarks->dX,binaryOp->ef,bootBuiltins->cf,builtinLookup_eq_fast->eZ,builtinsNs->gZ,cLine->de,cellsFrom->fu,closureFor->hX,codeAmong->gY,codeAny->eN,codeAny_builtin->cQ,compEnvC->iM,compTurn->fg,compareOp->cC,concat_meets->i9,firstArgMember->h8,foldedSetIterable->cH,getItem->gA,holding->ft,keywordEach->fN,letOwnedTupleGo->eU,mainGlobals->aS,mem_of_lookup->dO,model->aB,noFill_tuple_add->iI,pickOrder->gX,plainId_quiet->da,pushCells->gW,pyNext->eL,rawInt->c9,recursionLimit->g7,relayAll->iN,seqItems?->iO,setField->jk,setsByText->jd,sizeLine_eq->bn,sliceBounds->eH,standAt->fF,starEach->az,strKind->gG,sysModules->e9,typeLookup->ja,typeLookup_type->gN,unsupported->gJ,wpAny->aF,wpAny_Call_Name_kw->eO,wpAny_askSetting->dw,wpAny_attempt->iD,wpAny_bind->aa,wpAny_callSpecial?_slot->cK,wpAny_call_entry->cD,wpAny_execs_nil->gM,wpAny_field->bW,wpAny_holding->bb,wpAny_isInstance->iQ,wpAny_ite_split->fJ,wpAny_letGo->fm,wpAny_mono->cj,wpAny_newObj_type->bd,wpAny_onRaise->gI,wpAny_passesOwn->d7,wpAny_pure->ae,wpAny_pyIter_list->iw,wpAny_pyIter_tuple->eR,wpAny_rule->cx,wpAny_seqItems->bT,wpAny_setField_rec->bj,wpAny_setState_of->er,wpAny_standAt->fD,wpAny_truthy_bool->eh,wpAny_tryCatch->eG,wpAny_typeOf->fw,wpAny_updateSeq->eW,wpAny_updateSeq_pair->gL
open PySem.Around renaming under_plainId->bJ
open PySem.Builtin.Builtins renaming bindParams->gV
open PySem.Builtin.Dict renaming updateFrom->iZ
open PySem.Builtin.Frozenset renaming addrOf->iE
open PySem.Builtin.List renaming listExtendWith->gS,listLengthHint->gR,listSameRef->iF
open PySem.Builtin.Slice renaming sliceAdjust->fA,sliceApplied->ff,slicePlaces->d5
open PySem.Builtin.SmallTypes renaming nextOf->aV,ownedTupleHandOut->fC,ownedTupleIsFree->bh
open PySem.Builtin.Str renaming strSliceIndices->bI
open PySem.Builtin.Tuple renaming tupleExact->ca,tupleItemsOf->hJ
open PySem.Calls renaming Name_function_global->g6,callWith_builtin->jb,call_function_entry->io,spliced_cons->eM,spliced_nil->fR
open PySem.Code renaming compLoop->gF,compStart->fX
open PySem.F renaming args_dict_get_3->fP,args_tuple_add_2->fE,args_tuple_lt_2->iP,entry_dict_get->fZ,entry_extend_loop->im,entry_tuple_add->fM,entry_tuple_lt->jc,plainAttrs_list->iY,plain_extend_loop->d6,plain_list_iadd->iS,slot_dict_get->e6,slot_set_iter->jj,slot_tuple_add->fU,slot_tuple_lt->f9
open PySem.Heap renaming SameBut->cR,get?_push_of_some->af,get?_push_size->aq,get?_update_other->bi,get?_update_self->cX,lt_size->aA,size_push->cZ
open PySem.Heap.SameBut renaming refl->jz,update->cF
open PySem.NameKind renaming cell->gE,free->aT
open PySem.Obj renaming mapSeq->bD,putSet->hZ
open PySem.Paired renaming length->dW
open PySem.PassesOwn renaming never->d9
open PySem.SeqAt renaming EqAt->dZ,RcNeAt->cy
open PySem.SeqAt.EqAt renaming int_none->ju,none_int->js,none_str->jt,of_refs->jy,same->jh,str_none->jv,str_str->h9
open PySem.SetTable renaming grown->dF
open PySem.Value renaming bool->gp,int->iH,isStrOf->eX,isStrOf_shape->gO,none->cL,ref->fq,type->d0
open PySem.W renaming Frag->ar,cellsFrom_some->i8,codeIn->fT,fnOf->ej,keepIn->fc,kla_fn->jp,kla_obj->ji,methodObj->iq,mg_none_of->hU,mg_of->jw,nsIn->bu,tabObj->f7
open PySem.Walks renaming tuple->jn
open PySem.pickOrder renaming go->jA
open Sum renaming inl->i6,inr->eK
set_option Elab.async false
set_option linter.all false
set_option maxRecDepth 100000
namespace L2
open PySem PySem.Spec PyProof.Rows
abbrev Key:=Sum Int Str
def bQi:Key->ad->Bool
 |.inl k,v=>ad.isInt k v
 |.inr x,v=>eX x v
def keyH(w:aQ):Key->Int
 |.inl k=>hashInt k
 |.inr x=>hashStr w x
theorem aQc:∀{k:Key}{v:ad},bQi k v=true->(∃i t,k=i6 i/\v=iH i t)\/(∃x t,k=eK x/\v=ad.str x t)
 |.inl i,v,h=>by
  obtain⟨t,e⟩:=ad.isInt_shape (k:=i) (v:=v) h;exact .inl ⟨i,t,rfl,e⟩
 |.inr x,v,h=>by
  obtain⟨t,e⟩:=gO (x:=x) (v:=v) h;exact .inr ⟨x,t,rfl,e⟩
theorem cQf(i:Int)(t:Tok):bQi (.inl i) (.int i t)=true:=by simp[bQi,ad.isInt]
theorem cQg(x:Str)(t:Tok):bQi (.inr x) (.str x t)=true:=by simp[bQi,eX]
theorem eQ6(a b:Int):decide ((i6 a:Key)=i6 b)=(a==b):=by
 by_cases e:a=b
 ·subst e;simp
 ·have h:¬ (i6 a:Key)=i6 b:=λq=>e (i6.inj q);rw[decide_eq_false h];exact(beq_eq_false_iff_ne.mpr e).symm
theorem eQ7(a b:Str):decide ((eK a:Key)=eK b)=decide (a=b):=by
 by_cases e:a=b
 ·subst e;simp
 ·have h:¬ (eK a:Key)=eK b:=λq=>e (eK.inj q);rw[decide_eq_false h,decide_eq_false e]
theorem eQ8(a:Int)(b:Str):decide ((i6 a:Key)=eK b)=false:=decide_eq_false (λq=>nomatch q)
theorem eQ9(a:Str)(b:Int):decide ((eK a:Key)=i6 b)=false:=decide_eq_false (λq=>nomatch q)
def aQd(prog:aE)(w:aQ):PySem.KeyKind prog w Key where
 is:=bQi
 hash:=keyH w
 inj:=λv a b ha hb=>by
  rcases aQc ha with⟨i,t,rfl,rfl⟩|⟨x,t,rfl,rfl⟩
  ·rcases aQc hb with⟨j,u,rfl,e⟩|⟨y,u,rfl,e⟩
   ·injection e with e1 _;rw[e1]
   ·exact nomatch e
  ·rcases aQc hb with⟨j,u,rfl,e⟩|⟨y,u,rfl,e⟩
   ·exact nomatch e
   ·injection e with e1 _;rw[e1]
 byValue:=λk v h=>by
  rcases aQc h with⟨i,t,rfl,rfl⟩|⟨x,t,rfl,rfl⟩ <;> rfl
 pyHash:=λhv h=>by
  rcases aQc hv with⟨i,t,rfl,rfl⟩|⟨x,t,rfl,rfl⟩
  ·exact wpAny_pyHash_int h
  ·exact wpAny_pyHash_str h
 eqBool:=λhu hv h=>by
  rcases aQc hu with⟨i,t,rfl,rfl⟩|⟨x,t,rfl,rfl⟩
  ·rcases aQc hv with⟨j,u,rfl,rfl⟩|⟨y,u,rfl,rfl⟩
   ·rw[eQ6] at h;exact wpAny_eqBool_int h
   ·rw[eQ8] at h;exact dZ.int_str i t y u _ _ _ _ h
  ·rcases aQc hv with⟨j,u,rfl,rfl⟩|⟨y,u,rfl,rfl⟩
   ·rw[eQ9] at h;exact dZ.str_int x t j u _ _ _ _ h
   ·rw[eQ7] at h;exact wpAny_eqBool_str h
 «strs»:=λk x t v h=>by
  rcases aQc h with⟨i,u,rfl,e⟩|⟨y,u,rfl,e⟩
  ·exact nomatch e
  ·injection e with e1 _
   subst e1;cases v <;> rfl
theorem bX5(prog:aE)(w:aQ)(i:Int)(t:Tok):(aQd prog w).is (.inl i) (.int i t)=true:=cQf i t
theorem bX6(prog:aE)(w:aQ)(x:Str)(t:Tok):(aQd prog w).is (.inr x) (.str x t)=true:=cQg x t
inductive V where
 |non|bl (b:Bool)|int (i:Int)|str (x:Str)|byt (b:Array UInt8)|flt (b:UInt64)|ref (a:Addr)|ty (n:String)
 deriving DecidableEq
def RelV:V->ad->Prop
 |.non,u=>u=cL
 |.bl b,u=>u=gp b
 |.int i,u=>∃t,u=iH i t
 |.str x,u=>∃t,u=ad.str x t
 |.byt b,u=>∃t,u=ad.bytes b t
 |.flt b,u=>∃t,u=ad.float b t
 |.ref a,u=>u=fq a
 |.ty n,u=>u=d0 n
abbrev Vals:List V->List ad->Prop:=bG RelV
theorem Vals.length{xs:List V}{us:List ad}(r:Vals xs us):xs.length=us.length:=dW r
theorem Vals.get:∀{xs:List V}{us:List ad}{i:Nat}{x:V},Vals xs us->xs[i]?=some x->∃u,us[i]?=some u/\RelV x u
 |_,_,_,_,.nil,e=>by simp at e
 |_,_,0,_,.cons r _,e=>by simp at e;subst e;exact⟨_,rfl,r⟩
 |_,_,i+1,x,.cons _ t,e=>by
  obtain⟨u,h1,h2⟩:=Vals.get (i:=i) (x:=x) t (by simpa using e)
  exact⟨u,by simpa using h1,h2⟩
theorem Vals.set{x:V}{u:ad}(r:RelV x u):∀{xs:List V}{us:List ad}(i:Nat),Vals xs us->Vals (xs.set i x) (us.set i u)
 |_,_,_,.nil=>.nil
 |_,_,0,.cons _ t=>.cons r t
 |_,_,i+1,.cons q t=>.cons q (Vals.set r i t)
theorem Vals.append:∀{xs ys:List V}{us ws:List ad},Vals xs us->Vals ys ws->Vals (xs++ys) (us++ws)
 |_,_,_,_,.nil,s=>s
 |_,_,_,_,.cons r t,s=>.cons r (Vals.append t s)
theorem Vals.take:∀{xs:List V}{us:List ad}(n:Nat),Vals xs us->Vals (xs.take n) (us.take n)
 |_,_,0,_=>.nil
 |_,_,_+1,.nil=>.nil
 |_,_,n+1,.cons r t=>.cons r (Vals.take n t)
theorem Vals.drop:∀{xs:List V}{us:List ad}(n:Nat),Vals xs us->Vals (xs.drop n) (us.drop n)
 |_,_,0,r=>r
 |_,_,_+1,.nil=>.nil
 |_,_,n+1,.cons _ t=>Vals.drop n t
def RelO:Option V->Option ad->Prop
 |some v,some u=>RelV v u
 |none,none=>True
 |_,_=>False
def KV{κ:Type}:List (κ×V)->List (κ×ad)->Prop:=bG λ(p:κ×V) (q:κ×ad)=>p.1=q.1/\RelV p.2 q.2
def kV:Key->V
 |.inl i=>.int i
 |.inr x=>.str x
inductive HO where
 |lst (xs:List V)
 |tup (xs:List V)
 |dK (kvs:List (Key×V))|dT (kvs:List (List Key×V))
 |set (S:Int->Bool) (n:Nat)
 |ins (C dx:Addr) (fs:List (Str×V))
 |own (x:Addr)
 |xd (fs:List (Str×V))
 |met (f x:Addr)
 |rng (lo hi:Int)
 |frz (o:Obj) (u:HO)
 |tbl (ps:Array ad)
 |ext (φ:aX->Prop)
abbrev Hp:=Addr->Option HO
def upd(H:Hp)(a:Addr)(o:HO):Hp:=λb=>if b=a then some o else H b
theorem aQ9{H:Hp}{a:Addr}{o:HO}:upd H a o a=some o:=by unfold upd;rw[if_pos rfl]
theorem upd_ne{H:Hp}{a b:Addr}{o:HO}(h:b≠a):upd H a o b=H b:=by unfold upd;rw[if_neg h]
theorem aZk{H:Hp}{a b:Addr}{o:HO}(h:H a=some o)(h':H b=none):a≠b:=by
 intro e;subst e;rw[h] at h';cases h'
section
variable(P:aE)(w:aQ)
def ObjOk(H:Hp)(h:aX)(a:Addr):HO->Prop
 |.lst xs=>xs.length<=sizeLine/\∃(its:List ad) (n:Nat),Vals xs its/\h.get? a=some {cls:=.type "list",data:=.seq its.toArray n}
 |.tup xs=>xs.length<=sizeLine/\∃its:List ad,Vals xs its/\IsTup h a its.toArray/\∀o,h.get? a=some o->o.dict=none
 |.dK kvs=>kvs.length<=sizeLine/\(a==e9)=false/\∃vs,KV kvs vs/\h.DictOf (aQd P w) a vs
 |.dT kvs=>kvs.length<=sizeLine/\(a==e9)=false/\∃xs:List (List Key×Addr×ad),
   bG (λ(p:List Key×V) (q:List Key×Addr×ad)=>p.1=q.1/\H q.2.1=some (.tup (p.1.map kV))/\RelV p.2 q.2.2) kvs xs /\
   ∃o es ep,h.get? a=some o/\o.ExactDict/\o.data=.dict es ep/\es.toList=xs.map (entryOfKey (tupleKind (aQd P w)))/\(xs.map (·.1)).Nodup
 |.set S n=>h.SetOf (intKind P w) a S n
 |.ins C dx fs=>H dx=some (.own a)/\fs.length<=1000/\dx≠a/\h.get? a=some (PySem.W.instObj C dx) /\
   ∃mA,h.Ns1 dx mA/\(∀f,RelO (fs.lookup f) (mA f))/\PySem.Within mA (fs.map (·.1))
 |.own _=>∃o,h.get? a=some o
 |.xd fs=>∃mA,h.Ns1 a mA/\∀f,RelO (fs.lookup f) (mA f)
 |.rng lo hi=>∃t u v,h.get? a=some {cls:=.type "range",data:=.fields #[.int lo t,.int hi u,.int 1 v]}
 |.frz o u=>h.get? a=some o/\ObjOk H h a u
 |.tbl ps=>h.get? a=some {cls:=.none,data:=.fields ps}
 |.met f x=>h.get? a=some (iq (.ref f) (.ref x))
 |.ext φ=>φ h/\(∃o,h.get? a=some o)/\∀h1 h2:aX,φ h1->(∀o,h1.get? a=some o->h2.get? a=some o)->φ h2
def HOk(H:Hp)(h:aX):Prop:=∀a o,H a=some o->ObjOk P w H h a o
end
section
variable{P:aE}{w:aQ}{H H':Hp}{h h':aX}{a:Addr}{o:HO}
theorem ObjOk.lt(x:ObjOk P w H h a o):a<h.objs.size:=by
 cases o with
 |lst xs=>obtain⟨_,_,_,_,e⟩:=x;exact aA e
 |tup xs=>obtain⟨_,_,_,p⟩:=x;exact p.1.lt
 |dK j=>obtain⟨_,_,_,_,o,_,_,e,_⟩:=x;exact aA e
 |dT j=>obtain⟨_,_,_,_,o,_,_,e,_⟩:=x;exact aA e
 |set S n=>obtain⟨o,_,_,_,e,_⟩:=x;exact aA e
 |ins C D fs=>obtain⟨_,_,_,e,_⟩:=x;exact aA e
 |own y=>obtain⟨_,e⟩:=x;exact aA e
 |xd fs=>obtain⟨_,⟨_,_,_,e,_⟩,_⟩:=x;exact aA e
 |rng lo hi=>obtain⟨_,_,_,e⟩:=x;exact aA e
 |frz B u=>obtain⟨e,_⟩:=x;exact aA e
 |tbl ps=>exact aA (show h.get? a=some _ from x)
 |met f y=>exact aA (show h.get? a=some _ from x)
 |ext φ=>obtain⟨_,⟨_,e⟩,_⟩:=x;exact aA e
theorem Paired.mapP{α β:Type}{F G:α->β->Prop}:∀{l₁:List α}{l₂:List β},bG F l₁ l₂->(∀a b,F a b->G a b)->bG G l₁ l₂
 |_,_,.nil,_=>.nil
 |_,_,.cons r t,f=>.cons (f _ _ r) (Paired.mapP t f)
theorem ObjOk.stay(x:ObjOk P w H h a o)(k:∀b u,(b=a\/H b=some (.own a))->h.get? b=some u->h'.get? b=some u)
  (ho:∀b,H b=some (.own a)->H' b=some (.own a)) (ht:∀b xs,H b=some (.tup xs)->H' b=some (.tup xs)):ObjOk P w H' h' a o:=by
 induction o with
 |lst xs=>obtain⟨z,its,n,r,e⟩:=x;exact⟨z,its,n,r,k _ _ (.inl rfl) e⟩
 |tup xs =>
  obtain⟨z,its,r,⟨j,e,c⟩,nd⟩:=x;exact⟨z,its,r,⟨j,k _ _ (.inl rfl) e,c⟩,λo q=>by rw[k _ _ (.inl rfl) e] at q;cases q;exact nd _ e⟩
 |dK L=>obtain⟨z,y,vs,r,j,es,B,e,c⟩:=x;exact⟨z,y,vs,r,j,es,B,k _ _ (.inl rfl) e,c⟩
 |dT L =>
  obtain⟨z,y,xs,r,j,es,B,e,c⟩:=x;exact⟨z,y,xs,Paired.mapP r λp q z=>⟨z.1,ht _ _ z.2.1,z.2.2⟩,j,es,B,k _ _ (.inl rfl) e,c⟩
 |set S n=>obtain⟨j,es,B,t,e,c⟩:=x;exact⟨j,es,B,t,k _ _ (.inl rfl) e,c⟩
 |ins C O fs =>
  obtain⟨d,z,ne,e,J,⟨D,es,B,e2,c⟩,r⟩:=x;exact⟨ho _ d,z,ne,k _ _ (.inl rfl) e,J,⟨D,es,B,k _ _ (.inr d) e2,c⟩,r⟩
 |own y=>obtain⟨j,e⟩:=x;exact⟨j,k _ _ (.inl rfl) e⟩
 |xd fs=>obtain⟨J,⟨D,es,B,e,c⟩,r⟩:=x;exact⟨J,⟨D,es,B,k _ _ (.inl rfl) e,c⟩,r⟩
 |rng lo hi=>obtain⟨t,u,v,e⟩:=x;exact⟨t,u,v,k _ _ (.inl rfl) e⟩
 |frz j u N=>obtain⟨e,q⟩:=x;exact⟨k _ _ (.inl rfl) e,N q⟩
 |tbl ps =>
  have e:h.get? a=some {cls:=.none,data:=.fields ps}:=x;show h'.get? a=some {cls:=.none,data:=.fields ps};exact k a _ (.inl rfl) e
 |met f y =>
  have e:h.get? a=some (iq (.ref f) (.ref y)):=x;show h'.get? a=some (iq (.ref f) (.ref y));exact k a _ (.inl rfl) e
 |ext φ=>obtain⟨p,⟨o,e⟩,st⟩:=x;exact⟨st _ _ p λo q=>k _ _ (.inl rfl) q,⟨o,k _ _ (.inl rfl) e⟩,st⟩
theorem bJ0{g:aX}{arr:Array ad}{n:Nat}:∀o,(g.push {cls:=.type "tuple",data:=.seq arr n}).get? g.objs.size=some o->o.dict=none:=λo e=>by
 rw[aq _ rfl] at e;cases e;rfl
theorem HOk.lt(x:HOk P w H h)(e:H a=some o):a<h.objs.size:=(x a o e).lt
theorem HOk.fresh(x:HOk P w H h)(e:h.objs.size<=a):H a=none:=by
 cases q:H a with
 |none=>rfl
 |some u=>exact absurd (Nat.lt_of_lt_of_le (x.lt q) e) (Nat.lt_irrefl _)
theorem HOk.kept(x:HOk P w H h)(k:∀b u,h.get? b=some u->h'.get? b=some u):HOk P w H h':=λa o e =>
 (x a o e).stay (λb u _ q=>k b u q) (λ_ q=>q) λ_ _ q=>q
theorem HOk.laid(x:HOk P w H h)(k:∀b u,h.get? b=some u->h'.get? b=some u)(hp:h.objs.size<=a)(new:ObjOk P w (upd H a o) h' a o):HOk P w (upd H a o) h':=λb u e=>by
 have hn:=x.fresh hp
 by_cases j:b=a
 ·subst j;rw[aQ9] at e;cases e;exact new
 ·rw[upd_ne j] at e;exact(x b u e).stay (λc v _ q=>k c v q) (λc q=>by rw[upd_ne (aZk q hn)];exact q) λc xs q=>by rw[upd_ne (aZk q hn)];exact q
end
def Rd(H:Hp)(a:Addr)(u:HO):Prop:=H a=some u\/∃o,H a=some (.frz o u)
theorem Rd.ok{P:aE}{w:aQ}{H:Hp}{h:aX}{a:Addr}{u:HO}(r:Rd H a u)(x:HOk P w H h):ObjOk P w H h a u:=by
 rcases r with r|⟨o,r⟩
 ·exact x a u r
 ·obtain⟨_,q⟩:=x a _ r;exact q
def Mut:Option HO->Prop
 |some (.lst _)=>True
 |some (.dK _)=>True
 |some (.dT _)=>True
 |some (.set _ _)=>True
 |some (.ins _ _ _)=>True
 |some (.ext _)=>True
 |_=>False
section
variable{P:aE}{w:aQ}{H:Hp}{h h':aX}{x e:Addr}{o':HO}
theorem HOk.write(ok:HOk P w H h)(mu:Mut (H x))(he:e=x\/H e=some (.own x))(k:∀b u,b≠e->h.get? b=some u->h'.get? b=some u)(heo:∃u,h'.get? e=some u)
  (new:ObjOk P w (upd H x o') h' x o'):HOk P w (upd H x o') h':=λb u q=>by
 have B:∀c y,H c=some (.own y)->c≠x:=λc y r z=>by subst z;rw[r] at mu;exact mu
 have ntup:∀c xs,H c=some (.tup xs)->c≠x:=λc xs r z=>by subst z;rw[r] at mu;exact mu
 by_cases J:b=x
 ·subst J;rw[aQ9] at q;cases q;exact new
 ·rw[upd_ne J] at q
  by_cases j:b=e
  ·have q':H b=some (.own x):=by
    rcases he with z|z
    ·exact absurd (j.trans z) J
    ·rw[j];exact z
   rw[q] at q';cases q';obtain⟨v,L⟩:=heo;exact⟨v,by rw[j];exact L⟩
  ·refine(ok b u q).stay (λc v D r=>k c v ?_ r) (λc r=>by rw[upd_ne (B c b r)];exact r) λc xs r=>by rw[upd_ne (ntup c xs r)];exact r
   rcases D with rfl|D
   ·exact j
   ·rintro rfl;rcases he with z|z
    ·exact B c b D z
    ·rw[D] at z;cases z;exact J rfl
end
structure Un(fs ex:List Addr)(H H':Hp)(h h':aX):Prop where
 keep:∀b o,h.get? b=some o->H b=none->b∉fs->b∉ex->h'.get? b=some o
 slot:∀b o,h.get? b=some o->H b=none->b∈fs->b∉ex->∃sl,h'.get? b=some {o with slots:=sl}
 free:∀b o,h.get? b=some o->H b=none->b∉ex->H' b=none
 there:∀b o,h.get? b=some o->b∉ex->∃o',h'.get? b=some o'
 tups:∀b xs,H b=some (.tup xs)->H' b=some (.tup xs)
 frzs:∀b o u,H b=some (.frz o u)->H' b=some (.frz o u)
 tbls:∀b ps,H b=some (.tbl ps)->∃more,H' b=some (.tbl (ps++more))
section
variable{fs fs' ex ex':List Addr}{H H1 H2:Hp}{h h1 h2 h':aX}{a x e:Addr}{o:HO}
theorem Un.any(u:Un fs ex H H1 h h1){b:Addr}{ob:Obj}(q:h.get? b=some ob)(n:H b=none)(hx:b∉ex):∃sl,h1.get? b=some {ob with slots:=sl}:=by
 by_cases j:b∈fs
 ·exact u.slot b ob q n j hx
 ·exact⟨ob.slots,u.keep b ob q n j hx⟩
theorem Un.kept(k:∀b u,h.get? b=some u->h'.get? b=some u):Un fs ex H H h h' :=
 ⟨λb j q _ _ _=>k b j q,λb j q _ _ _=>⟨j.slots,k b j q⟩,λ_ _ _ n _=>n,λb j q _=>⟨j,k b j q⟩,λ_ _ q=>q,λ_ _ _ q=>q,λ_ ps q=>⟨#[],by rw[q];simp⟩⟩
theorem Un.refl:Un fs ex H H h h:=Un.kept λ_ _ q=>q
theorem Un.laid(k:∀b u,h.get? b=some u->h'.get? b=some u)(hp:h.objs.size<=a)(hn:H a=none):Un fs ex H (upd H a o) h h' where
 keep:=λb u q _ _ _=>k b u q
 slot:=λb u q _ _ _=>⟨u.slots,k b u q⟩
 free:=λb u q n _=>by rw[upd_ne (Nat.ne_of_lt (Nat.lt_of_lt_of_le (aA q) hp))];exact n
 there:=λb u q _=>⟨u,k b u q⟩
 tups:=λb xs q=>by rw[upd_ne (aZk q hn)];exact q
 frzs:=λb u xs q=>by rw[upd_ne (aZk q hn)];exact q
 tbls:=λb ps q=>⟨#[],by rw[upd_ne (aZk q hn),q];simp⟩
theorem Un.write(mu:Mut (H x))(he:e=x\/H e=some (.own x))(k:∀b u,b≠e->h.get? b=some u->h'.get? b=some u)(heo:∃u,h'.get? e=some u):Un fs ex H (upd H x o) h h':=by
 have B:∀b,H b=none->b≠x:=λb n z=>by subst z;rw[n] at mu;exact mu
 have D:∀b,H b=none->b≠e:=λb n z=>by
  subst z;rcases he with r|r
  ·exact B b n r
  ·rw[n] at r;cases r
 have hm:∀b u,H b=some u->¬ Mut (some u)->b≠x:=λb u q nm z=>by subst z;rw[q] at mu;exact nm mu
 refine⟨λb u q n _ _=>k b u (D b n) q,λb u q n _ _=>⟨u.slots,k b u (D b n) q⟩,λb u q n _=>by rw[upd_ne (B b n)];exact n,λb u q _=>?_,
  λb xs q=>by rw[upd_ne (hm b _ q λz=>z)];exact q,λb u xs q=>by rw[upd_ne (hm b _ q λz=>z)];exact q,λb ps q=>⟨#[],by rw[upd_ne (hm b _ q λz=>z),q];simp⟩⟩
 by_cases j:b=e
 ·subst j;exact heo
 ·exact⟨u,k b u j q⟩
end
def trk(h:aX)(H:Hp):List Addr:=(bQ h.objs.size).filter λa=>(H a).isSome
def hidT(h:aX)(H:Hp):aX:=PySem.W.hideAll h (trk h H)
theorem cQh(h:aX)(H:Hp):(hidT h H).objs.size=h.objs.size:=PySem.W.hideAll_size _ _
theorem cXy{h:aX}{H:Hp}{b:Addr}{o:Obj}(e:h.get? b=some o)(n:H b=none):(hidT h H).get? b=some o :=
 PySem.W.hideAll_get _ e λhm=>by
  have q:(H b).isSome=true:=(bM.mp hm).2;rw[n] at q;simp at q
theorem dZ8{h:aX}{H:Hp}{b:Addr}{o:Obj}(e:(hidT h H).get? b=some o):h.get? b=some o/\H b=none:=by
 have j:h.get? b=some o:=PySem.W.of_hideAll (trk h H) e;refine⟨j,?_⟩;cases q:H b with
 |none=>rfl
 |some x =>
  have hm:b∈trk h H:=bM.mpr ⟨cz.mpr (aA j),by simp[q]⟩
  have z:(hidT h H).get? b=none:=PySem.W.hideAll_none (trk h H) hm;rw[z] at e;cases e
structure Mod(K:ar)(mg:Str->Option ad)(base:aX):Prop where
 kin:K.In base
 glob:base.Ns aS mg
 blt:∃mb,base.Ns gZ mb/\∀x:Str,x ≠ "__name__"->mb x=cf x
 nolimit:base.NoLimit
structure Cx where
 prog:aE
 w:aQ
 K:ar
 mg:Str->Option ad
 base:aX
 A:aW
 N:List Str
 s₀:ah
 H₀:Hp
 env:Env
 outer:List Env
 stack:List Env
 ex:List Addr
 fn:Str->Bool
 calm:Bool
 pn:List (Addr×Obj)
 xe:ad->ah->Prop
def frs(l:List Env):List Addr:=l.filterMap (·.frame)
abbrev Cx.fs(X:Cx):List Addr:=frs X.outer
def Vis(sc:Scope)(x:Str):Prop:=sc.names.lookup x=some .local\/sc.names.lookup x=some .cell\/sc.names.lookup x=some .free
def Loc(sc:Scope)(x:Str):Prop:=sc.names.lookup x=some .local\/sc.names.lookup x=some .cell
def Look(env:Env)(h:aX)(m:Str->Option ad)(x:Str)(u:ad):Prop :=
 (env.kindOf x=some .local/\m x=some u)\/((env.kindOf x=some .cell\/env.kindOf x=some .free)/\∃c,env.cells.lookup x=some c/\h.IsCell c (some u))
structure Cx.Ok(X:Cx):Prop where
 mod:Mod X.K X.mg X.base
 kind:X.env.scope.kind=.function
 glob:X.env.globals=aS
 blt:X.env.builtins=gZ
 above:X.s₀.heap.objs.size<=X.env.locals
 inj:∀x y c,X.env.cells.lookup x=some c->X.env.cells.lookup y=some c->x=y
 has:∀x,(X.env.kindOf x=some .cell\/X.env.kindOf x=some .free)->∃c,X.env.cells.lookup x=some c
 cab:∀x c,X.fn x=true->X.env.cells.lookup x=some c->X.s₀.heap.objs.size<=c
 hd:X.calm=true->X.A.handled=none
 frames:X.A.frames=some X.stack
 gd:X.A.guards=some []
 stk:X.stack=X.outer\/(X.stack=X.env::X.outer/\X.env.frame=some X.env.locals)
 exf:∀b∈X.ex,b≠X.env.locals/\∀x c,X.env.cells.lookup x=some c->c≠b
 bs:∀b o,X.base.get? b=some o->X.s₀.heap.get? b=some o/\X.H₀ b=none
 bsz:X.base.objs.size<=X.s₀.heap.objs.size
 noex:∀b o,X.base.get? b=some o->b∉X.ex
 exfs:∀b∈X.ex,b∉X.fs
 funs:X.s₀.heap.FunFrames X.base X.outer
 frf:∀b∈X.fs,X.H₀ b=none
structure Inv(X:Cx)(pins:List (Addr×Obj))(σ:List (Option V))(H:Hp)(s:ah):Prop where
 ok:X.Ok
 os:s.os=X.s₀.os
 bare:ir s.gens
 base:Un X.fs X.ex X.H₀ H X.s₀.heap s.heap
 loc:∃m,s.heap.Ns X.env.locals m/\∀(i:Nat) (x:Str) (v:V),X.N[i]?=some x->σ[i]?=some (some v)->Vis X.env.scope x->∃u,RelV v u/\Look X.env s.heap m x u
 cell:∀x c,X.env.cells.lookup x=some c->∃v,s.heap.IsCell c v
 free:H X.env.locals=none
 freeC:∀x c,X.env.cells.lookup x=some c->H c=none
 pin:∀p∈X.pn++pins,s.heap.get? p.1=some p.2/\H p.1=none/\p.1≠X.env.locals/\p.1∉X.fs/\∀v,p.2.data≠.cell v
 hok:HOk X.prog X.w H s.heap
 len:σ.length=X.N.length
section
variable{X:Cx}{pins:List (Addr×Obj)}{σ:List (Option V)}{H H':Hp}{s:ah}{h':aX}
theorem Cx.Ok.nofr(ok:X.Ok){b:Addr}{o:Obj}(e:X.base.get? b=some o):b∉X.fs:=λj=>by
 have:=(ok.funs.mem j).1
 rw[e] at this;cases this
theorem Inv.bs(I:Inv X pins σ H s):∀b o,X.base.get? b=some o->s.heap.get? b=some o/\H b=none:=λb o e =>
 ⟨I.base.keep b o (I.ok.bs b o e).1 (I.ok.bs b o e).2 (I.ok.nofr e) (I.ok.noex b o e),I.base.free b o (I.ok.bs b o e).1 (I.ok.bs b o e).2 (I.ok.noex b o e)⟩
theorem Inv.bk(I:Inv X pins σ H s):∀b o,X.base.get? b=some o->s.heap.get? b=some o:=λb o e=>(I.bs b o e).1
theorem Inv.mod(I:Inv X pins σ H s):Mod X.K X.mg X.base:=I.ok.mod
theorem Inv.kIn(I:Inv X pins σ H s):X.K.In s.heap:=I.ok.mod.kin.keeps I.bk
theorem Inv.nolimit(I:Inv X pins σ H s):s.heap.NoLimit:=I.ok.mod.nolimit.keeps I.bk
theorem Inv.lt(I:Inv X pins σ H s):X.env.locals<s.heap.objs.size:=let ⟨_,hn,_⟩:=I.loc;hn.lt
theorem Inv.sz(I:Inv X pins σ H s):X.s₀.heap.objs.size<=s.heap.objs.size:=Nat.le_trans I.ok.above (Nat.le_of_lt I.lt)
theorem Inv.nofs(I:Inv X pins σ H s){a:Addr}(h:s.heap.objs.size<=a):a∉X.fs:=λB=>by
 obtain⟨_,o,j,_⟩:=I.ok.funs.mem B;exact absurd (Nat.lt_of_lt_of_le (aA j) (Nat.le_trans I.sz h)) (Nat.lt_irrefl _)
theorem Inv.cne(I:Inv X pins σ H s):∀x c,X.env.cells.lookup x=some c->c≠X.env.locals:=λx c e z=>by
 obtain⟨v,o,ho,hd⟩:=I.cell x c e;obtain⟨m,⟨o',es,D,j,B,_⟩,_⟩:=I.loc;rw[z,j] at ho;cases ho;rw[B] at hd;cases hd
theorem Inv.funs(I:Inv X pins σ H s):s.heap.FunFrames X.base X.outer:=by
 have all:∀(l:List Env),(∀b∈frs l,b∈X.fs)->X.s₀.heap.FunFrames X.base l->s.heap.FunFrames X.base l:=by
  intro l
  induction l with
  |nil=>intro _ _;trivial
  |cons env r D =>
   intro hs hl;obtain⟨O,⟨L,o,hf,hn,N,hd⟩,J⟩:=hl;have B:L∈X.fs:=hs L (by unfold frs;rw[eC,hf];exact au)
   obtain⟨sl,e⟩:=I.base.slot L o N (I.ok.frf L B) B λz=>I.ok.exfs L z B;exact⟨O,⟨L,_,hf,hn,e,hd⟩,D (λb j=>hs b (by unfold frs;rw[eC,hf];exact ay _ j)) J⟩
 exact all X.outer (λ_ j=>j) I.ok.funs
theorem Inv.stack(I:Inv X pins σ H s):s.heap.FunFrames X.base X.stack:=by
 rcases I.ok.stk with e|⟨e,hf⟩
 ·rw[e];exact I.funs
 ·rw[e];obtain⟨m,hn,_⟩:=I.loc;refine .cons (by rw[I.ok.kind];decide) hf hn ?_ I.funs
  exact aX.get?_none_of_le (Nat.le_trans I.ok.bsz I.ok.above)
theorem Inv.stkSub(I:Inv X pins σ H s):∀b∈frs X.stack,b∈X.env.locals::X.fs:=λb j=>by
 rcases I.ok.stk with e|⟨e,hf⟩
 ·rw[e] at j;exact ay _ j
 ·rw[e] at j;unfold frs at j;rw[eC,hf] at j;exact j
theorem Inv.stkFree(I:Inv X pins σ H s):∀b∈frs X.stack,H b=none:=λb j=>by
 rcases aM.mp (I.stkSub b j) with e|j
 ·rw[e];exact I.free
 ·obtain⟨_,o,B,_⟩:=I.ok.funs.mem j;exact I.base.free b o B (I.ok.frf b j) λz=>I.ok.exfs b z j
theorem Inv.step{g':Array GenState}{t':Nat}{d':Drawn}{ch:List Addr}(I:Inv X pins σ H s)
  (hch:∀b∈ch,(b∈X.ex\/X.s₀.heap.objs.size<=b)/\b≠X.env.locals/\(∀x c,X.env.cells.lookup x=some c->c≠b)/\∀p∈X.pn++pins,p.1≠b)
  (keep:∀b o,b≠X.env.locals->b∉X.fs->b∉ch->s.heap.get? b=some o->H b=none->h'.get? b=some o)
  (slot:∀b o,b≠X.env.locals->b∈X.fs->b∉ch->s.heap.get? b=some o->H b=none->∃sl,h'.get? b=some {o with slots:=sl}) (free:∀b o,b∉ch->s.heap.get? b=some o->H b=none->H' b=none)
  (there:∀b o,b∉ch->s.heap.get? b=some o->∃o',h'.get? b=some o')
  (tups:∀b xs,H b=some (.tup xs)->H' b=some (.tup xs)) (frzs:∀b o u,H b=some (.frz o u)->H' b=some (.frz o u)) (tbls:∀b ps,H b=some (.tbl ps)->∃more,H' b=some (.tbl (ps++more)))
  (ns:∀m,s.heap.Ns X.env.locals m->h'.Ns X.env.locals m) (hok:HOk X.prog X.w H' h') (hg:ir g') :
  Inv X pins σ H' {s with heap:=h',gens:=g',drawn:=d',toks:=t'}:=by
 have N:∀b o,X.s₀.heap.get? b=some o->b≠X.env.locals:=λb o e=>Nat.ne_of_lt (Nat.lt_of_lt_of_le (aA e) I.ok.above);have D:∀b o,X.s₀.heap.get? b=some o->b∉X.ex->b∉ch:=λb o e j J=>by
  rcases(hch b J).1 with z|z
  ·exact j z
  ·exact absurd (Nat.lt_of_lt_of_le (aA e) z) (Nat.lt_irrefl _)
 have cellK:∀x c,X.env.cells.lookup x=some c->∀v,s.heap.IsCell c v->h'.IsCell c v:=λx c e v ⟨o,L,hd⟩=>by
  have B:c∉ch:=λz=>(hch c z).2.2.1 x c e rfl
  by_cases hc:c∈X.fs
  ·obtain⟨sl,q⟩:=slot c o (I.cne x c e) hc B L (I.freeC x c e);exact⟨_,q,hd⟩
  ·exact⟨o,keep c o (I.cne x c e) hc B L (I.freeC x c e),hd⟩
 refine⟨I.ok,I.os,hg,⟨λb o e n J j=>?_,λb o e n J j=>?_,λb o e n j=>?_,λb o e j=>?_,λb xs e=>tups b xs (I.base.tups b xs e),λb o xs e=>frzs b o xs (I.base.frzs b o xs e),λb ps e=>?_⟩,?_,λx c e=>?_,?_,λx c e=>?_,λp Z=>?_,hok,I.len⟩
 ·exact keep b o (N b o e) J (D b o e j) (I.base.keep b o e n J j) (I.base.free b o e n j)
 ·obtain⟨sl,e1⟩:=I.base.slot b o e n J j;obtain⟨O,e2⟩:=slot b _ (N b o e) J (D b o e j) e1 (I.base.free b o e n j);exact⟨O,e2⟩
 ·obtain⟨o',e1⟩:=I.base.there b o e j;exact free b o' (D b o e j) e1 (I.base.free b o e n j)
 ·obtain⟨o',e1⟩:=I.base.there b o e j;exact there b o' (D b o e j) e1
 ·obtain⟨m1,e1⟩:=I.base.tbls b ps e;obtain⟨m2,e2⟩:=tbls b _ e1;exact⟨m1++m2,by rw[e2,Array.append_assoc]⟩
 ·obtain⟨m,hn,hl⟩:=I.loc;refine⟨m,ns m hn,λi x v e1 e2 e3=>?_⟩;obtain⟨u,r,l⟩:=hl i x v e1 e2 e3;refine⟨u,r,?_⟩;rcases l with l|⟨k,c,e,z⟩
  ·exact .inl l
  ·exact .inr ⟨k,c,e,cellK x c e _ z⟩
 ·obtain⟨v,z⟩:=I.cell x c e;exact⟨v,cellK x c e v z⟩
 ·obtain⟨m,⟨o,_,_,L,_⟩,_⟩:=I.loc;exact free _ o (λz=>(hch _ z).2.1 rfl) L I.free
 ·obtain⟨v,o,L,hd⟩:=I.cell x c e;exact free c o (λz=>(hch c z).2.2.1 x c e rfl) L (I.freeC x c e)
 ·obtain⟨e,n,ne,Y,d⟩:=I.pin p Z;have B:p.1∉ch:=λz=>(hch p.1 z).2.2.2 p Z rfl;exact⟨keep p.1 p.2 ne Y B e n,free p.1 p.2 B e n,ne,Y,d⟩
theorem Inv.un{t':Nat}(I:Inv X pins σ H s)(u:Un X.fs [] H H' s.heap h')(hok:HOk X.prog X.w H' h'):Inv X pins σ H' {s with heap:=h',toks:=t'}:=by
 obtain⟨m,⟨o,es,Y,J,r⟩,_⟩:=id I.loc;obtain⟨sl,N⟩:=u.any J I.free (by simp)
 exact I.step (g':=s.gens) (d':=s.drawn) (ch:=[]) (λ_ z=>nomatch z) (λb o _ j _ e n=>u.keep b o e n j (by simp)) (λb o _ j _ e n=>u.slot b o e n j (by simp)) (λb o _ e n=>u.free b o e n (by simp)) (λb o _ e=>u.there b o e (by simp)) u.tups u.frzs u.tbls (λO hm=>by
  obtain⟨o',B,D,ho',L⟩:=hm;rw[J] at ho';cases ho';exact⟨_,B,D,N,L⟩) hok I.bare
theorem Inv.call{g':Array GenState}{t':Nat}{d':Drawn}{ch:List Addr}(I:Inv X pins σ H s)(u:Un (frs X.stack) ch H H' s.heap h')(hok:HOk X.prog X.w H' h')(hg:ir g')
  (hch:∀b∈ch,(b∈X.ex\/X.s₀.heap.objs.size<=b)/\b≠X.env.locals/\(∀x c,X.env.cells.lookup x=some c->c≠b)/\∀p∈X.pn++pins,p.1≠b) :
  Inv X pins σ H' {s with heap:=h',gens:=g',drawn:=d',toks:=t'}:=by
 obtain⟨m,⟨o,es,Z,L,r⟩,_⟩:=id I.loc;obtain⟨sl,B⟩:=u.any L I.free λz=>(hch _ z).2.1 rfl;exact I.step (ch:=ch) hch (λb o B O j e n=>u.keep b o e n (λz=>(aM.mp (I.stkSub b z)).elim B O) j) (λb o _ _ j e n=>u.any e n j) (λb o j e n=>u.free b o e n j) (λb o j e=>u.there b o e j) u.tups u.frzs u.tbls (λY hm=>by
  obtain⟨o',D,J,ho',N⟩:=hm;rw[L] at ho';cases ho';exact⟨_,D,J,B,N⟩) hok hg
theorem Inv.turned{t':Nat}{it:Addr}(I:Inv X pins σ H s)(k:∀b o,b≠it->s.heap.get? b=some o->h'.get? b=some o)(hn:H it=none)(hL:it≠X.env.locals)
  (h1:it∈X.ex\/X.s₀.heap.objs.size<=it) (h2:∀x c,X.env.cells.lookup x=some c->c≠it) (h3:∀p∈X.pn++pins,p.1≠it):Inv X pins σ H {s with heap:=h',toks:=t'}:=by
 have B:∀b u,H b=some u->b≠it:=λb u e z=>by rw[z,hn] at e;cases e
 refine I.step (g':=s.gens) (d':=s.drawn) (ch:=[it]) (λb J=>?_) (λb o _ _ j e _=>k b o (λz=>j (by simp[z])) e) (λb o _ _ j e _=>⟨o.slots,k b o (λz=>j (by simp[z])) e⟩) (λ_ _ _ _ n=>n)
  (λb o j e=>⟨o,k b o (λz=>j (by simp[z])) e⟩) (λ_ _ e=>e) (λ_ _ _ e=>e) (λb ps e=>⟨#[],by rw[e];simp⟩) (λm hm=>?_) (λb u e=>?_) I.bare
 ·have e:b=it:=by simpa using J
  subst e;exact⟨h1,hL,h2,h3⟩
 ·obtain⟨o,es,L,D,r⟩:=hm;exact⟨o,es,L,k _ o (dA hL) D,r⟩
 ·refine(I.hok b u e).stay (λc v j q=>k c v ?_ q) (λ_ q=>q) λ_ _ q=>q;rcases j with z|z
  ·rw[z];exact B b u e
  ·exact B c _ z
theorem Inv.tok(I:Inv X pins σ H s)(t:Nat):Inv X pins σ H {s with toks:=t}:=I.un (h':=s.heap) (t':=t) Un.refl I.hok
theorem Inv.kept{t':Nat}(I:Inv X pins σ H s)(k:∀b u,s.heap.get? b=some u->h'.get? b=some u):Inv X pins σ H {s with heap:=h',toks:=t'}:=I.un (Un.kept k) (I.hok.kept k)
theorem Inv.laid{a:Addr}{o:HO}{t':Nat}(I:Inv X pins σ H s)(k:∀b u,s.heap.get? b=some u->h'.get? b=some u)(hp:s.heap.objs.size<=a)(new:ObjOk X.prog X.w (upd H a o) h' a o) :
  Inv X pins σ (upd H a o) {s with heap:=h',toks:=t'}:=I.un (Un.laid k hp (I.hok.fresh hp)) (I.hok.laid k hp new)
theorem Inv.write{x e:Addr}{o:HO}{t':Nat}(I:Inv X pins σ H s)(mu:Mut (H x))(he:e=x\/H e=some (.own x))(k:∀b u,b≠e->s.heap.get? b=some u->h'.get? b=some u)(heo:∃u,h'.get? e=some u)
  (new:ObjOk X.prog X.w (upd H x o) h' x o):Inv X pins σ (upd H x o) {s with heap:=h',toks:=t'}:=I.un (Un.write mu he k heo) (I.hok.write mu he k heo new)
theorem Inv.weak{σ':List (Option V)}(I:Inv X pins σ H s)(hl:σ'.length=σ.length)(w:∀(i:Nat) v,σ'[i]?=some (some v)->σ[i]?=some (some v)):Inv X pins σ' H s :=
 ⟨I.ok,I.os,I.bare,I.base,let ⟨m,hn,j⟩:=I.loc;⟨m,hn,λi x v e1 e2 B=>j i x v e1 (w i v e2) B⟩,I.cell,I.free,I.freeC,I.pin,I.hok,hl.trans I.len⟩
theorem Inv.pins_of{pins':List (Addr×Obj)}(I:Inv X pins σ H s)(h:∀p∈pins',s.heap.get? p.1=some p.2/\H p.1=none/\p.1≠X.env.locals/\p.1∉X.fs/\∀v,p.2.data≠.cell v):Inv X pins' σ H s :=
 ⟨I.ok,I.os,I.bare,I.base,I.loc,I.cell,I.free,I.freeC,λp j=>(aN.mp j).elim (λz=>I.pin p (c5 _ z)) (h p),I.hok,I.len⟩
theorem nodup_ix{N:List Str}(hN:N.Nodup){i j:Nat}{x:Str}(a:N[i]?=some x)(b:N[j]?=some x):i=j:=by
 obtain⟨h1,e1⟩:=aD.mp a;obtain⟨h2,e2⟩:=aD.mp b;exact(List.getElem_inj hN).mp (e1.trans e2.symm)
theorem cQi{M:Model}{A:aW}{E:ad->ah->Prop}{i:Nat}{x:Str}{v:V}{u:ad}{Q:Unit->ah->Prop}(I:Inv X pins σ H s)(hN:X.N.Nodup)(hi:X.N[i]?=some x)(hx:Loc X.env.scope x)(r:RelV v u)
  (h:∀s',Inv X pins (σ.set i (some v)) H s'->(∃a,cR a s.heap s'.heap/\(a=X.env.locals\/X.env.cells.lookup x=some a))->Q () s') (hf:X.fn x=true\/X.env.scope.names.lookup x=some .local:=by first|exact .inl rfl|exact .inr rfl|assumption):aF M A (storeName X.env x u) Q E s:=by
 obtain⟨m,hn,hl⟩:=id I.loc;have Z:(X.env.scope.kind ==.class||(X.env.scope.kind ==.module&&X.env.locals !=X.env.globals))=false:=by rw[I.ok.kind];rfl
 have hiσ:i<σ.length:=by rw[I.len];exact(aD.mp hi).1
 have cne:=I.cne;have tracked:∀{a:Addr}{h':aX},(∃o,s.heap.get? a=some o/\H a=none)->cR a s.heap h'->HOk X.prog X.w H h':=λ{a h'} ha hs b ob e=>by
  obtain⟨_,_,B⟩:=ha;refine(I.hok b ob e).stay (λc w' hc q=>(hs.2 c ?_).trans q) (λ_ q=>q) λ_ _ q=>q;rintro rfl;rcases hc with rfl|hc
  ·rw[B] at e;cases e
  ·rw[B] at hc;cases hc
 rcases hx with hk|hk
 ·refine wpAny_storeName_local hk hn (λh' hn' hs=>?_) Z;obtain⟨oL,_,_,hoL,_⟩:=id hn;refine h _ ⟨I.ok,I.os,I.bare,⟨λb o e n L hx=>?_,λb o e n L hx=>?_,I.base.free,λb o e hx=>?_,I.base.tups,I.base.frzs,I.base.tbls⟩,⟨_,hn',λj y v' e1 e2 e3=>?_⟩,λy c e=>?_,I.free,I.freeC,λp hp=>?_,tracked ⟨oL,hoL,I.free⟩ hs,by simpa using I.len⟩ ⟨_,hs,.inl rfl⟩
  ·exact(hs.2 b (Nat.ne_of_lt (Nat.lt_of_lt_of_le (aA e) I.ok.above))).trans (I.base.keep b o e n L hx)
  ·obtain⟨sl,e1⟩:=I.base.slot b o e n L hx;exact⟨sl,(hs.2 b (Nat.ne_of_lt (Nat.lt_of_lt_of_le (aA e) I.ok.above))).trans e1⟩
  ·obtain⟨o',e1⟩:=I.base.there b o e hx;exact⟨o',(hs.2 b (Nat.ne_of_lt (Nat.lt_of_lt_of_le (aA e) I.ok.above))).trans e1⟩
  ·by_cases D:j=i
   ·subst D;rw[hi] at e1;cases e1;rw[List.getElem?_set_self hiσ] at e2;cases e2;exact⟨u,r,.inl ⟨hk,by simp⟩⟩
   ·rw[fb (dA D)] at e2;obtain⟨u',r',q⟩:=hl j y v' e1 e2 e3;refine⟨u',r',?_⟩;rcases q with⟨k,e⟩|⟨k,c,e,z⟩
    ·refine .inl ⟨k,?_⟩
     have:y≠x:=λe=>D (nodup_ix hN e1 (e▸hi))
     simp[this,e]
    ·exact .inr ⟨k,c,e,z.sameBut hs (cne y c e)⟩
  ·obtain⟨w',z⟩:=I.cell y c e;exact⟨w',z.sameBut hs (cne y c e)⟩
  ·obtain⟨e,n,ne,nf,d⟩:=I.pin p hp;exact⟨(hs.2 p.1 ne).trans e,n,ne,nf,d⟩
 ·have J:X.fn x=true:=by
   rcases hf with z|z
   ·exact z
   ·rw[z] at hk;cases hk
  obtain⟨c,hc⟩:=I.ok.has x (.inl hk);obtain⟨w',z⟩:=I.cell x c hc;refine wpAny_storeName_cell I.ok.kind hk hc z (λh' hc' hs=>?_);obtain⟨oc,Y,O⟩:=id z;refine h {s with heap:=h'} ⟨I.ok,I.os,I.bare,⟨λb o e n L hx=>?_,λb o e n L hx=>?_,I.base.free,λb o e hx=>?_,I.base.tups,I.base.frzs,I.base.tbls⟩,⟨m,hn.sameBut hs (dA (cne x c hc)),λj y v' e1 e2 e3=>?_⟩,λy c' e=>?_,I.free,I.freeC,λp hp=>?_,tracked ⟨oc,Y,I.freeC x c hc⟩ hs,by simpa using I.len⟩ ⟨c,hs,.inr hc⟩
  ·exact(hs.2 b (Nat.ne_of_lt (Nat.lt_of_lt_of_le (aA e) (I.ok.cab x c J hc)))).trans (I.base.keep b o e n L hx)
  ·obtain⟨sl,e1⟩:=I.base.slot b o e n L hx;exact⟨sl,(hs.2 b (Nat.ne_of_lt (Nat.lt_of_lt_of_le (aA e) (I.ok.cab x c J hc)))).trans e1⟩
  ·obtain⟨o',e1⟩:=I.base.there b o e hx;exact⟨o',(hs.2 b (Nat.ne_of_lt (Nat.lt_of_lt_of_le (aA e) (I.ok.cab x c J hc)))).trans e1⟩
  ·by_cases D:j=i
   ·subst D;rw[hi] at e1;cases e1;rw[List.getElem?_set_self hiσ] at e2;cases e2;exact⟨u,r,.inr ⟨.inl hk,c,hc,hc'⟩⟩
   ·rw[fb (dA D)] at e2;obtain⟨u',r',q⟩:=hl j y v' e1 e2 e3;refine⟨u',r',?_⟩;rcases q with q|⟨k,c',e,z'⟩
    ·exact .inl q
    ·refine .inr ⟨k,c',e,z'.sameBut hs ?_⟩;rintro rfl;exact D (nodup_ix hN e1 (I.ok.inj _ _ _ e hc▸hi))
  ·by_cases hcc:c'=c
   ·subst hcc;exact⟨_,hc'⟩
   ·obtain⟨w2,z2⟩:=I.cell y c' e;exact⟨w2,z2.sameBut hs hcc⟩
  ·obtain⟨e,n,ne,nf,d⟩:=I.pin p hp;refine⟨(hs.2 p.1 ?_).trans e,n,ne,nf,d⟩;intro q;rw[q,Y] at e;have q':oc=p.2:=aR e;exact d w' (by rw[<- q'];exact O)
theorem store_ok{M:Model}{A:aW}{E:ad->ah->Prop}{i:Nat}{x:Str}{v:V}{u:ad}{Q:Unit->ah->Prop}(I:Inv X pins σ H s)(hN:X.N.Nodup)(hi:X.N[i]?=some x)(hx:Loc X.env.scope x)(r:RelV v u)
  (h:∀s',Inv X pins (σ.set i (some v)) H s'->Q () s') (hf:X.fn x=true\/X.env.scope.names.lookup x=some .local:=by first|exact .inl rfl|exact .inr rfl|assumption):aF M A (storeName X.env x u) Q E s :=
 cQi I hN hi hx r (λs' j _=>h s' j) hf
theorem Inv.call'{s':ah}{ch:List Addr}(I:Inv X pins σ H s)(ho:s'.os=s.os)(u:Un (frs X.stack) ch H H' s.heap s'.heap)(hok:HOk X.prog X.w H' s'.heap)(hg:ir s'.gens)
  (hch:∀b∈ch,(b∈X.ex\/X.s₀.heap.objs.size<=b)/\b≠X.env.locals/\(∀x c,X.env.cells.lookup x=some c->c≠b)/\∀p∈X.pn++pins,p.1≠b):Inv X pins σ H' s':=by
 obtain⟨h',g',d',t',o'⟩:=s';have e:o'=s.os:=ho;subst e;exact I.call (g':=g') (t':=t') (d':=d') u hok hg hch
end
abbrev XK:=ad->Option Addr->Hp->Prop
abbrev St:=List (Option V)
abbrev VK:=V->Hp->Prop
abbrev TE:=St->Hp->VK->Prop
abbrev TT:=St->Hp->(Bool->Hp->Prop)->Prop
abbrev TA:=St->Hp->(List V->Hp->Prop)->Prop
structure Ends where
 nx:St->Hp->Prop
 rt:VK
 bk:St->Hp->Prop:=λ_ _=>False
 ct:St->Hp->Prop:=λ_ _=>False
abbrev TS:=Ends->St->Hp->Prop
def EP(X:Cx)(pins:List (Addr×Obj))(σ:St)(Q:VK)(u:ad)(s':ah):Prop:=∃v H',Inv X pins σ H' s'/\RelV v u/\Q v H'
def TP(X:Cx)(pins:List (Addr×Obj))(σ:St)(Q:Bool->Hp->Prop)(b:Bool)(s':ah):Prop:=∃H',Inv X pins σ H' s'/\Q b H'
def AP(X:Cx)(pins:List (Addr×Obj))(σ:St)(Q:List V->Hp->Prop)(us:List ad)(s':ah):Prop:=∃vs H',Inv X pins σ H' s'/\Vals vs us/\Q vs H'
def SP(X:Cx)(pins:List (Addr×Obj))(D:Ends)(f:Flow)(s':ah):Prop :=
 match f with
 |.next=>∃σ' H',Inv X pins σ' H' s'/\D.nx σ' H'
 |.brk=>∃σ' H',Inv X pins σ' H' s'/\D.bk σ' H'
 |.cont=>∃σ' H',Inv X pins σ' H' s'/\D.ct σ' H'
 |.ret u=>∃v σ' H',Inv X pins σ' H' s'/\RelV v u/\D.rt v H'
def PE(X:Cx)(e:Expr)(t:TE):Prop :=
 ∀(pins:List (Addr×Obj)) (s:ah) (σ:St) (H:Hp) (Q:VK),Inv X pins σ H s->t σ H Q->aF (aB X.prog X.w) X.A (eval e X.env) (EP X pins σ Q) X.xe s
def PT(X:Cx)(e:Expr)(t:TT):Prop :=
 ∀(pins:List (Addr×Obj)) (s:ah) (σ:St) (H:Hp) (Q:Bool->Hp->Prop),Inv X pins σ H s->t σ H Q->aF (aB X.prog X.w) X.A (isTrue e X.env (eval e X.env)) (TP X pins σ Q) X.xe s
def PW(X:Cx)(e:Expr)(t:TT):Prop :=
 ∀(whole:Sem ad) (pins:List (Addr×Obj)) (s:ah) (σ:St) (H:Hp) (Q:Bool->Hp->Prop),Inv X pins σ H s->t σ H Q->aF (aB X.prog X.w) X.A (isTrue e X.env whole) (TP X pins σ Q) X.xe s
theorem PW.pt{X:Cx}{e:Expr}{t:TT}(h:PW X e t):PT X e t:=h _
def PA(X:Cx)(es:List Expr)(t:TA):Prop :=
 ∀(pos:Pos) (pins:List (Addr×Obj)) (s:ah) (σ:St) (H:Hp) (Q:List V->Hp->Prop),Inv X pins σ H s->t σ H Q->aF (aB X.prog X.w) X.A (spliced (cq pos (az es X.env))) (AP X pins σ Q) X.xe s
def PS(X:Cx)(st:Stmt)(t:TS):Prop :=
 ∀(pins:List (Addr×Obj)) (s:ah) (σ:St) (H:Hp) (D:Ends),Inv X pins σ H s->t D σ H->aF (aB X.prog X.w) X.A (exec st X.env) (SP X pins D) X.xe s
def PSs(X:Cx)(st:List Stmt)(t:TS):Prop :=
 ∀(pins:List (Addr×Obj)) (s:ah) (σ:St) (H:Hp) (D:Ends),Inv X pins σ H s->t D σ H->aF (aB X.prog X.w) X.A (execs st X.env) (SP X pins D) X.xe s
theorem thn{α:Type}{t:Sem α}{Q Q':α->ah->Prop}{M:Model}{A:aW}{E:ad->ah->Prop}{s:ah}(h:aF M A t Q E s)(hQ:∀a s,Q a s->Q' a s):aF M A t Q' E s:=cj h hQ λ_ _ x=>x
section
variable{X:Cx}
def tVar(i:Nat):TE:=fun σ H Q=>∃v,σ[i]?=some (some v)/\Q v H
def tC(v:V):TE:=λ_ H Q=>Q v H
theorem eQa{i:Nat}{x:Str}{pos:Pos}(hN:X.N[i]?=some x)(hv:Vis X.env.scope x)(hd:(x==("__debug__":Str))=false:=by decide)(hcd:(x==("__classdict__":Str))=false:=by decide):PE X (.Name x pos) (tVar i):=by
 intro pins s σ H Q I h;obtain⟨v,e,h⟩:=h;obtain⟨m,hn,hl⟩:=I.loc;obtain⟨u,r,l⟩:=hl i x v hN e hv;have fin:EP X pins σ Q u s:=⟨v,H,I,r,h⟩;rcases l with⟨B,hm⟩|⟨B,c,D,j⟩
 ·exact wpAny_Name (wpAny_loadName_local I.ok.kind B hn hm fin) hd
 ·rcases B with B|B
  ·exact wpAny_Name (wpAny_loadName_cell I.ok.kind B D j fin) hd
  ·exact wpAny_Name (wpAny_loadName_free I.ok.kind B D j fin hcd) hd
theorem eQb{i j pos}:PE X (.Constant (.int i) j pos) (tC (.int i)):=λ_ _ _ H _ I h=>wpAny_Constant_int ⟨.int i,H,I.tok _,⟨_,rfl⟩,h⟩
theorem eJq{b j pos}:PE X (.Constant (.bool b) j pos) (tC (.bl b)):=λ_ _ _ H _ I h=>Constant_bool ⟨.bl b,H,I,rfl,h⟩
theorem eQc{j pos}:PE X (.Constant .none j pos) (tC .non):=λ_ _ _ H _ I h=>Constant_none ⟨.non,H,I,rfl,h⟩
theorem eQd{x j pos}:PE X (.Constant (.str x) j pos) (tC (.str x)):=λ_ _ _ H _ I h=>Calls.Constant_str ⟨.str x,H,I.tok _,⟨_,rfl⟩,h⟩
def Gl(X:Cx)(x:Str):Prop:=X.env.kindOf x=some .globalImplicit
theorem ld_glob{E:ad->ah->Prop}{pins:List (Addr×Obj)}{s:ah}{σ:St}{H:Hp}{x:Str}{u:ad}{pos:Pos}{Q:ad->ah->Prop}(I:Inv X pins σ H s)(hg:Gl X x)(hm:X.mg x=some u)(h:Q u s)
  (hd:(x==("__debug__":Str))=false:=by decide):aF (aB X.prog X.w) X.A (eval (.Name x pos) X.env) Q E s :=
 g6 I.ok.kind hg (Calls.loadGlobal_global (by rw[I.ok.glob];exact I.mod.glob.keeps I.bk) hm h) hd
theorem ld_blt{E:ad->ah->Prop}{pins:List (Addr×Obj)}{s:ah}{σ:St}{H:Hp}{x:Str}{u:ad}{pos:Pos}{Q:ad->ah->Prop}(I:Inv X pins σ H s)(hg:Gl X x)(hm:X.mg x=none)(hv:cf x=some u)(h:Q u s)
  (hn:x ≠ "__name__":=by decide) (hd:(x==("__debug__":Str))=false:=by decide):aF (aB X.prog X.w) X.A (eval (.Name x pos) X.env) Q E s:=by
 obtain⟨j,h1,h2⟩:=I.mod.blt;exact g6 I.ok.kind hg (Calls.loadGlobal_builtin (by rw[I.ok.glob];exact I.mod.glob.keeps I.bk) hm (by rw[I.ok.blt];exact h1.keeps I.bk) ((h2 x hn).trans hv) h) hd
variable{a b:Expr}{ta tb:TE}{pos:Pos}
variable{tA tB':TT}{rest:List Expr}
def tAnd(t u:TT):TT:=fun σ H Q=>t σ H λc H1=>if c=true then u σ H1 Q else Q false H1
def tOr(t u:TT):TT:=fun σ H Q=>t σ H λc H1=>if c=true then Q true H1 else u σ H1 Q
def tNot(t:TT):TT:=fun σ H Q=>t σ H λc H1=>Q (!c) H1
theorem dZ9(ha:PT X a tA):PW X (.BoolOp .And [a] pos) tA:=by
 intro j pins s σ H Q I h;refine isTrue_and (thn (ha pins s σ H Q I h) λc s1 e=>?_);cases c with
 |true=>exact isTrue_and_nil e
 |false=>exact e
theorem eQe(ha:PT X a tA):PW X (.BoolOp .Or [a] pos) tA:=by
 intro j pins s σ H Q I h;refine isTrue_or (thn (ha pins s σ H Q I h) λc s1 e=>?_);cases c with
 |false=>exact isTrue_or_nil e
 |true=>exact e
theorem eQf(ha:PT X a tA)(hb:PW X (.BoolOp .And (b::rest) pos) tB'):PW X (.BoolOp .And (a::b::rest) pos) (tAnd tA tB'):=by
 intro D pins s σ H Q I h;refine isTrue_and (thn (ha pins s σ H _ I h) λc s1 ⟨H1,B,j⟩=>?_);cases c with
 |true=>exact hb D pins s1 σ H1 Q B j
 |false=>exact⟨H1,B,j⟩
theorem eJr(ha:PT X a tA)(hb:PW X (.BoolOp .Or (b::rest) pos) tB'):PW X (.BoolOp .Or (a::b::rest) pos) (tOr tA tB'):=by
 intro D pins s σ H Q I h;refine isTrue_or (thn (ha pins s σ H _ I h) λc s1 ⟨H1,B,j⟩=>?_);cases c with
 |true=>exact⟨H1,B,j⟩
 |false=>exact hb D pins s1 σ H1 Q B j
theorem eQg(ha:PT X a tA):PT X (.UnaryOp .Not a pos) (tNot tA):=by
 intro pins s σ H Q I h;exact isTrue_not (ha pins s σ H (λc H1=>Q (!c) H1) I h)
end
def SqL(K:ar)(H:Hp)(a:Addr)(xs:List V):Prop :=
 Rd H a (.lst xs) \/
  ∃(o:Obj) (its:Array ad) (n:Nat),K.lookup a=some o/\o.cls=.type "list"/\o.dict=none/\o.data=.seq its n/\its.size<=sizeLine/\Vals xs its.toList
def SqT(K:ar)(H:Hp)(a:Addr)(xs:List V):Prop :=
 Rd H a (.tup xs) \/
  ∃(o:Obj) (its:Array ad) (n:Nat),K.lookup a=some o/\o.cls=.type "tuple"/\o.dict=none/\o.data=.seq its n/\its.size<=sizeLine/\Vals xs its.toList
def absV:ad->Option V
 |.none=>some .non
 |.bool b=>some (.bl b)
 |.int i _=>some (.int i)
 |.str x _=>some (.str x)
 |.bytes b _=>some (.byt b)
 |.float b _=>some (.flt b)
 |.ref a=>some (.ref a)
 |.type n=>some (.ty n)
 |_=>none
theorem RelV.abs{x:V}{u:ad}(r:RelV x u):absV u=some x:=by
 cases x with
 |non=>cases r;rfl
 |bl _=>cases r;rfl
 |int _=>obtain⟨t,rfl⟩:=r;rfl
 |str _=>obtain⟨t,rfl⟩:=r;rfl
 |byt _=>obtain⟨t,rfl⟩:=r;rfl
 |flt _=>obtain⟨t,rfl⟩:=r;rfl
 |ref _=>cases r;rfl
 |ty _=>cases r;rfl
theorem RelV.inj{x y:V}{u:ad}(r:RelV x u)(q:RelV y u):x=y:=aR (r.abs.symm.trans q.abs)
theorem Vals.inj:∀{xs ys:List V}{us:List ad},Vals xs us->Vals ys us->xs=ys
 |_,_,_,.nil,.nil=>rfl
 |_,_,_,.cons r t,.cons B j=>by rw[r.inj B,Vals.inj t j]
section
variable{X:Cx}{pins:List (Addr×Obj)}{σ:St}{H:Hp}{s:ah}{a:Addr}{xs ys:List V}
theorem SqL.of{K:ar}(h:H a=some (.lst xs)):SqL K H a xs:=.inl (.inl h)
theorem Inv.list(I:Inv X pins σ H s)(h:SqL X.K H a xs):∃its:List ad,Vals xs its/\PlainL s.heap a its.toArray/\xs.length<=sizeLine:=by
 rcases h with h|⟨o,its,n,j,B,hd,hs,D,r⟩
 ·obtain⟨z,its,n,r,e⟩:=h.ok I.hok;exact⟨its,r,⟨_,n,e,rfl,rfl,rfl⟩,z⟩
 ·refine⟨its.toList,r,⟨o,n,I.kIn a o j,B,hd,by simpa using hs⟩,?_⟩
  have e:=r.length;simp only[aH] at e;omega
theorem Inv.tuple(I:Inv X pins σ H s)(h:SqT X.K H a xs):∃its:List ad,Vals xs its/\IsTup s.heap a its.toArray/\xs.length<=sizeLine:=by
 rcases h with h|⟨o,its,n,j,B,_,hs,D,r⟩
 ·obtain⟨z,its,r,p,_⟩:=h.ok I.hok;exact⟨its,r,p,z⟩
 ·refine⟨its.toList,r,⟨o,I.kIn a o j,B,n,by simpa using hs⟩,?_⟩
  have e:=r.length;simp only[aH] at e;omega
theorem Inv.list_inj(I:Inv X pins σ H s)(h:SqL X.K H a xs)(h':SqL X.K H a ys):xs=ys:=by
 obtain⟨its,r,⟨o,n,e,_,_,d⟩,_⟩:=I.list h;obtain⟨its',B,⟨o',J,e',_,_,j⟩,_⟩:=I.list h';rw[e] at e';cases e';rw[d] at j;injection j with D _
 have:its=its':=by simpa using congrArg Array.toList D
 subst this;exact r.inj B
theorem Inv.tuple_inj(I:Inv X pins σ H s)(h:SqT X.K H a xs)(h':SqT X.K H a ys):xs=ys:=by
 obtain⟨its,r,⟨o,e,_,n,d⟩,_⟩:=I.tuple h;obtain⟨its',B,⟨o',e',_,J,j⟩,_⟩:=I.tuple h';rw[e] at e';cases e';rw[d] at j;injection j with D _
 have:its=its':=by simpa using congrArg Array.toList D
 subst this;exact r.inj B
end
abbrev Cx.wish(X:Cx)(E:ad->ah->Prop):Cx:={X with xe:=E}
abbrev Cx.nox(X:Cx):Cx:=X.wish λ_ _=>False
theorem Cx.Ok.wish{X:Cx}(ok:X.Ok)(E:ad->ah->Prop):(X.wish E).Ok :=
 ⟨ok.mod,ok.kind,ok.glob,ok.blt,ok.above,ok.inj,ok.has,ok.cab,ok.hd,ok.frames,ok.gd,ok.stk,ok.exf,ok.bs,ok.bsz,ok.noex,ok.exfs,ok.funs,ok.frf⟩
theorem Cx.Ok.unwish{X:Cx}{E:ad->ah->Prop}(ok:(X.wish E).Ok):X.Ok :=
 ⟨ok.mod,ok.kind,ok.glob,ok.blt,ok.above,ok.inj,ok.has,ok.cab,ok.hd,ok.frames,ok.gd,ok.stk,ok.exf,ok.bs,ok.bsz,ok.noex,ok.exfs,ok.funs,ok.frf⟩
section
variable{X:Cx}{pins:List (Addr×Obj)}{σ:St}{H:Hp}{s:ah}{E:ad->ah->Prop}
theorem Inv.wish(I:Inv X pins σ H s)(E:ad->ah->Prop):Inv (X.wish E) pins σ H s:=⟨I.ok.wish E,I.os,I.bare,I.base,I.loc,I.cell,I.free,I.freeC,I.pin,I.hok,I.len⟩
theorem Inv.unwish(I:Inv (X.wish E) pins σ H s):Inv X pins σ H s:=⟨I.ok.unwish,I.os,I.bare,I.base,I.loc,I.cell,I.free,I.freeC,I.pin,I.hok,I.len⟩
theorem SP.unwish{D:Ends}{f:Flow}{s':ah}(h:SP (X.wish E) pins D f s'):SP X pins D f s':=by
 cases f with
 |next=>obtain⟨σ',H',I,q⟩:=h;exact⟨σ',H',I.unwish,q⟩
 |brk=>obtain⟨σ',H',I,q⟩:=h;exact⟨σ',H',I.unwish,q⟩
 |cont=>obtain⟨σ',H',I,q⟩:=h;exact⟨σ',H',I.unwish,q⟩
 |ret u=>obtain⟨v,σ',H',I,r,q⟩:=h;exact⟨v,σ',H',I.unwish,r,q⟩
theorem PSs.nox{st:List Stmt}{t:TS}(h:PSs X.nox st t):PSs X st t:=λpins s σ H D I hw =>
 cj (h pins s σ H D (I.wish _) hw) (λ_ _ q=>q.unwish) λ_ _ z=>db z
end
section
variable{X:Cx}{st:Stmt}{rest:List Stmt}{t u:TS}{e:Expr}{te:TE}{pos:Pos}
def eJs:TS:=λD σ H=>D.nx σ H
def tSeq(t u:TS):TS:=λD σ H=>t {D with nx:=u D} σ H
theorem dZa:PSs X [] eJs:=λ_ _ σ H _ I h=>gM ⟨σ,H,I,h⟩
theorem bJ1(h1:PS X st t)(h2:PSs X rest u):PSs X (st::rest) (tSeq t u):=by
 intro pins s σ H D I h;refine wpAny_execs_cons (thn (h1 pins s σ H {D with nx:=u D} I h) λf s1 q=>?_)
 cases f with
 |next =>
  obtain⟨σ',H',j,q⟩:=q;exact h2 pins s1 σ' H' D j q
 |ret v=>exact q
 |brk=>exact q
 |cont=>exact q
theorem dZb(h1:PS X st t):PSs X [st] t:=by
 intro pins s σ H D I h;refine wpAny_execs_cons (thn (h1 pins s σ H D I h) λf s1 q=>?_);cases f with
 |next=>exact gM q
 |ret v=>exact q
 |brk=>exact q
 |cont=>exact q
theorem Inv.quiet{pins:List (Addr×Obj)}{σ:St}{H:Hp}{s:ah}(I:Inv X pins σ H s):interactive X.env=false:=by simp[interactive,I.ok.kind]
def eJt(te:TE):TS:=λD σ H=>te σ H λ_ H1=>D.nx σ H1
theorem dZc(he:PE X e te)(hs:swapsWith e none pos.line X.env=pure false:=by rfl):PS X (.Expr e pos) (eJt te):=by
 intro pins s σ H D I h;exact wpAny_Expr_any (thn (he pins s σ H _ I h) λv s1 ⟨x,H1,B,J,j⟩=>⟨σ,H1,B,j⟩) I.quiet hs
def tRet(te:TE):TS:=λD σ H=>te σ H D.rt
theorem eQh(he:PE X e te):PS X (.Return (some e) pos) (tRet te):=by
 intro pins s σ H D I h;exact wpAny_Return_some (thn (he pins s σ H _ I h) λv s1 ⟨x,H1,J,j,B⟩=>⟨x,σ,H1,J,j,B⟩)
def tIfS(c:TT)(t u:TS):TS:=λD σ H=>c σ H λb H1=>if b=true then t D σ H1 else u D σ H1
theorem eJu{c:Expr}{a b:List Stmt}{tc:TT}(hc:PT X c tc)(ha:PSs X a t)(hb:PSs X b u):PS X (.If c a b pos) (tIfS tc t u):=by
 intro pins s σ H D I h;refine wpAny_If (thn (hc pins s σ H _ I h) λd s1 ⟨H1,B,j⟩=>?_);cases d with
 |true=>exact ha pins s1 σ H1 D B j
 |false=>exact hb pins s1 σ H1 D B j
end
abbrev TG:=V->St->Hp->(St->Hp->Prop)->Prop
abbrev TGs:=List V->St->Hp->(St->Hp->Prop)->Prop
def PG(X:Cx)(target:Expr)(t:TG):Prop :=
 ∀(pins:List (Addr×Obj)) (s:ah) (σ:St) (H:Hp) (v:V) (u:ad) (Q:St->Hp->Prop),Inv X pins σ H s->RelV v u->t v σ H Q ->
  aF (aB X.prog X.w) X.A (i7 target X.env u) (λ_ s'=>∃σ' H',Inv X pins σ' H' s'/\Q σ' H') X.xe s
def PGs(X:Cx)(ts:List Expr)(t:TGs):Prop :=
 ∀(pins:List (Addr×Obj)) (s:ah) (σ:St) (H:Hp) (vs:List V) (us:List ad) (Q:St->Hp->Prop),Inv X pins σ H s->Vals vs us->t vs σ H Q ->
  aF (aB X.prog X.w) X.A (assignInOrder ((eB ts X.env).map (·.2)) us) (λ_ s'=>∃σ' H',Inv X pins σ' H' s'/\Q σ' H') X.xe s
abbrev TSet:=V->V->V->Hp->(Hp->Prop)->Prop
def PSet(X:Cx)(t:TSet):Prop :=
 ∀(pins:List (Addr×Obj)) (s:ah) (σ:St) (H:Hp) (o i v:V) (ov iv u:ad) (Q:Hp->Prop),Inv X pins σ H s->RelV o ov->RelV i iv->RelV v u->t o i v H Q ->
  aF (aB X.prog X.w) X.A (setItem ov iv u) (λ_ s'=>∃H',Inv X pins σ H' s'/\Q H') X.xe s
section
variable{X:Cx}{pos:Pos}
def cXz(i:Nat):TG:=λv σ H Q=>Q (σ.set i (some v)) H
theorem aQe{i:Nat}{x:Str}(hN:X.N.Nodup)(hi:X.N[i]?=some x)(hx:Loc X.env.scope x)(hf:X.fn x=true\/X.env.scope.names.lookup x=some .local:=by first|exact .inl rfl|exact .inr rfl|assumption):PG X (.Name x pos) (cXz i):=by
 intro pins s σ H v u Q I r h;exact wpAny_assign_Name (store_ok I hN hi hx r (λs' j=>⟨_,H,j,h⟩) hf)
def gNil:TGs:=λvs σ H Q=>vs=[]/\Q σ H
def eJv(t:TG)(u:TGs):TGs:=λvs σ H Q=>∃v r,vs=v::r/\t v σ H fun σ' H'=>u r σ' H' Q
theorem dZd:PGs X [] gNil:=by
 intro pins s σ H vs us Q I r h;obtain⟨e,h⟩:=h;subst e;cases r;exact assignInOrder_nil ⟨σ,H,I,h⟩
theorem cJ0{e:Expr}{es:List Expr}{t:TG}{u:TGs}(h1:PG X e t)(h2:PGs X es u)
  (hs:(eB (e::es) X.env).map (·.2)=i7 e X.env::(eB es X.env).map (·.2):=by rfl):PGs X (e::es) (eJv t u):=by
 intro pins s σ H vs us Q I r h;obtain⟨v,J,e1,h⟩:=h;subst e1;cases r with
 |cons r j =>
  rw[hs];refine assignInOrder_cons (thn (h1 pins s σ H _ _ _ I r h) λ_ s1 ⟨σ1,H1,D,B⟩=>?_);exact h2 pins s1 σ1 H1 _ _ Q D j B
def gTup(K:ar)(n:Nat)(t:TGs):TG:=λv σ H Q=>∃a xs,v=.ref a/\SqT K H a xs/\xs.length=n/\t xs σ H Q
theorem eQi{es:List Expr}{k:Nat}{t:TGs}{n:Nat}(hc:X.calm=true)(h:PGs X es t)
  (hn:(eB es X.env).length=n:=by rfl) (hst:(eB es X.env).findIdx? (·.1)=none:=by rfl):PG X (.Tuple es k pos) (gTup X.K n t):=by
 intro pins s σ H v u Q I r hw;obtain⟨a,xs,e1,J,hl,hw⟩:=hw;subst e1;cases r;obtain⟨its,j,D,N⟩:=I.tuple J;refine assign_Tuple_tuple (I.ok.hd hc) D (by simp[hn,<- hl,j.length]) hst λh' B=>?_
 have L:Inv X pins σ H {s with heap:=h'}:=I.kept (t':=s.toks) λb o e=>B b o (Nat.ne_of_lt (aA e)) e
 exact h pins _ σ H xs _ Q L (by simpa using j) hw
def gSub(to ti:TE)(t:TSet):TG:=λv σ H Q=>to σ H λo H1=>ti σ H1 λi H2=>t o i v H2 λH3=>Q σ H3
theorem eQj{o i:Expr}{to ti:TE}{t:TSet}(ho:PE X o to)(hi:PE X i ti)(hs:PSet X t)
  (ha:∀ v,i7 (.Subscript o i pos) X.env v=(do
   let ov <- ft [v] (eval o X.env)
   let iv <- ft [v,ov] (eval i X.env)
   fF pos
   ft [v,ov,iv] (setItem ov iv v)
   release [v,ov,iv] []):=by intro _;rfl):PG X (.Subscript o i pos) (gSub to ti t):=by
 intro pins s σ H v u Q I r h;rw[ha];refine aa (bb (thn (ho pins s σ H _ I h) λov s1 ⟨x,H1,Y,B,L⟩=>?_));refine aa (bb (thn (hi pins s1 σ H1 _ Y L) λiv s2 ⟨y,H2,O,j,J⟩=>?_));refine aa (fD (aa (bb (thn (hs pins s2 σ H2 x y v ov iv u _ O B j r J) λ_ s3 ⟨Z,N,D⟩=>?_))));exact wpAny_release ⟨σ,Z,N,D⟩
def tAsg(te:TE)(g:TG):TS:=λD σ H=>te σ H λx H1=>g x σ H1 D.nx
theorem eQk{tg e:Expr}{te:TE}{g:TG}(he:PE X e te)(hg:PG X tg g)(hs:swapsWithSole [tg] e pos.line X.env=pure false:=by rfl)(hw:swappedStores [tg] e X.env=pure none:=by rfl)
  (h1:(eB [tg] X.env).map (·.2)=[i7 tg X.env]:=by rfl):PS X (.Assign [tg] e pos) (tAsg te g):=by
 intro pins s σ H D I h;refine wpAny_Assign_stores (thn (he pins s σ H _ I h) λv s1 ⟨x,H1,J,j,B⟩=>?_) hs hw;rw[h1];exact thn (hg pins s1 σ H1 x v _ J j B) λ_ s2 q=>q
theorem eQl{i:Nat}{x:Str}{e:Expr}{te:TE}{pos':Pos}(hN:X.N.Nodup)(hi:X.N[i]?=some x)(hx:Loc X.env.scope x)(he:PE X e te)(hs:swapsWith e (some (.Name x pos')) pos.line X.env=pure false:=by rfl)(hf:X.fn x=true\/X.env.scope.names.lookup x=some .local:=by first|exact .inl rfl|exact .inr rfl|assumption) :
  PS X (.Assign [.Name x pos'] e pos) (tAsg te (cXz i)):=by
 intro pins s σ H D I h;refine wpAny_Assign_Name (thn (he pins s σ H _ I h) λv s1 ⟨y,H1,L,j,B⟩=>?_) hs;exact store_ok L hN hi hx j (λs2 J=>⟨_,H1,J,B⟩) hf
end
section
variable{X:Cx}{pos:Pos}
def eQm(c:TT)(tb:TS):TS:=λD σ H=>∃W:Nat->St->Hp->Prop,(∃m,W m σ H)/\∀m σ H,W m σ H ->
 c σ H λb H1=>if b=true then ∃N:St->Hp->Prop,(∀σ' H',N σ' H'->∃m',m'<m/\W m' σ' H')/\tb {D with nx:=N,ct:=N,bk:=D.nx} σ H1 else D.nx σ H1
theorem cJ1{c:Expr}{body:List Stmt}{tc:TT}{tb:TS}(hp:PassesOwn (aB X.prog X.w) X.A X.env X.xe)(hc:PT X c tc)(hb:PSs X body tb):PS X (.While c body [] pos) (eQm tc tb):=by
 intro pins s σ H D I h;obtain⟨W,⟨m0,w0⟩,turn⟩:=h;refine wpAny_While (codeAny_whileLoop (λn s'=>∃σ' H',Inv X pins σ' H' s'/\W n σ' H') ?_ m0 ⟨σ,H,I,w0⟩);rintro n s1 ⟨σ1,H1,I1,w1⟩;refine d7 hp (thn (hc pins s1 σ1 H1 _ I1 (turn n σ1 H1 w1)) λb s2 ⟨H2,I2,J⟩=>?_);cases b with
 |true =>
  obtain⟨N,hN,J⟩:=J;rw[if_pos rfl];refine d7 hp (thn (hb pins s2 σ1 H2 _ I2 J) λf s3 B=>?_);cases f with
  |next =>
   obtain⟨σ3,j,Z,O⟩:=B;obtain⟨Y,hm,L⟩:=hN σ3 j O;exact⟨Y,hm,σ3,j,Z,L⟩
  |cont =>
   obtain⟨σ3,j,Z,O⟩:=B;obtain⟨Y,hm,L⟩:=hN σ3 j O;exact⟨Y,hm,σ3,j,Z,L⟩
  |brk=>exact B
  |ret v=>exact B
 |false =>
  rw[if_neg du];exact gM ⟨σ1,H2,I2,J⟩
end
structure It where
 go:Nat->Hp->Prop
 yld:Nat->Hp->V->Hp->Prop
 stop:Nat->Hp->Prop
def FpOk(X:Cx)(pins:List (Addr×Obj))(H:Hp)(b:Addr):Prop :=
 H b=none/\b≠X.env.locals/\b∉X.fs/\(b∈X.ex\/X.s₀.heap.objs.size<=b)/\(∀x c,X.env.cells.lookup x=some c->c≠b)/\∀p∈X.pn++pins,p.1≠b
theorem Inv.fpOk{X:Cx}{pins:List (Addr×Obj)}{σ:St}{H H':Hp}{s:ah}{b:Addr}(I:Inv X pins σ H s)(hb:s.heap.objs.size<=b)(hn:H' b=none):FpOk X pins H' b:=by
 refine⟨hn,Nat.ne_of_gt (Nat.lt_of_lt_of_le I.lt hb),I.nofs hb,.inr (Nat.le_trans I.sz hb),λx c e z=>?_,λp j z=>?_⟩
 ·obtain⟨v,q⟩:=I.cell x c e;exact absurd (Nat.lt_of_lt_of_le q.lt (by rw[z];exact hb)) (Nat.lt_irrefl _)
 ·exact absurd (Nat.lt_of_lt_of_le (aA (I.pin p j).1) (by rw[z];exact hb)) (Nat.lt_irrefl _)
structure Turn(P:aE)(w:aQ)(K:ar)(tg:Expr)(J:It)(fp:List Addr)(it:Addr)(tn:Nat->aX->Prop):Prop where
 mem:it∈fp
 obj:∀i h,tn i h->∀b∈fp,∃o,h.get? b=some o/\∀v,o.data≠.cell v
 keep:∀i h h',tn i h->(∀b∈fp,∀o,h.get? b=some o->h'.get? b=some o)->tn i h'
 item:∀(X:Cx),X.prog=P->X.w=w->X.K=K->X.calm=true->∀(i:Nat) (pins:List (Addr×Obj)) (s:ah) (σ:St) (H:Hp) (E:ad->ah->Prop),Inv X pins σ H s->(∀b∈fp,FpOk X pins H b)->tn i s.heap->J.go i H ->
  aF (aB P w) X.A (eL (.ref it)) (λr s1=>∃ u,r=some u /\
   aF (aB P w) X.A (eU tg (.ref it) u) (λ_ s2=>∃x H',Inv X pins σ H' s2/\RelV x u/\J.yld i H x H'/\tn (i+1) s2.heap/\∀b∈fp,H' b=none) E s1) E s
 done:∀(X:Cx),X.prog=P->X.w=w->X.K=K->X.calm=true->∀(i:Nat) (pins:List (Addr×Obj)) (s:ah) (σ:St) (H:Hp) (E:ad->ah->Prop),Inv X pins σ H s->(∀b∈fp,FpOk X pins H b)->tn i s.heap->J.stop i H ->
  aF (aB P w) X.A (eL (.ref it)) (λr s1=>r=none/\Inv X pins σ H s1) E s
 self:∀(A:aW) (i:Nat) (s:ah) (Q:ad->ah->Prop) (E:ad->ah->Prop),tn i s.heap->Q (.ref it) s->aF (aB P w) A (pyIter (.ref it)) Q E s
abbrev TI:=St->Hp->(It->Hp->Prop)->Prop
def PIE(X:Cx)(pins:List (Addr×Obj))(σ:St)(tg:Expr)(R:It->Hp->Prop)(itv:ad)(s2:ah):Prop :=
 ∃(it:Addr) (fp:List Addr) (tn:Nat->aX->Prop) (J:It) (H':Hp),itv=.ref it/\Inv X pins σ H' s2/\Turn X.prog X.w X.K tg J fp it tn/\tn 0 s2.heap/\(∀b∈fp,FpOk X pins H' b)/\R J H'
def PI(X:Cx)(tg iter:Expr)(wi:TI):Prop :=
 ∀(pins:List (Addr×Obj)) (s:ah) (σ:St) (H:Hp) (R:It->Hp->Prop),Inv X pins σ H s->wi σ H R ->
  aF (aB X.prog X.w) X.A (eval iter X.env) (λv s1=>aF (aB X.prog X.w) X.A (pyIter v) (PIE X pins σ tg R) X.xe s1) X.xe s
theorem cJ2{M:Model}{A:aW}{E:ad->ah->Prop}{s:ah}{tg:Expr}{it:Addr}{u:ad}{o:Obj}{n:String}{vs:Array ad}{Q:Unit->ah->Prop}(ho:s.heap.get? it=some o)(hc:o.cls=.type n)(hd:o.data=.fields vs)
    (hn:["enumerate", "zip", "dict_itemiterator", "dict_reverseitemiterator", "odict_iterator", "itertools.zip_longest", "itertools.pairwise"].contains n=false) (hQ:Q () s):aF M A (eU tg (.ref it) u) Q E s:=by
  unfold eU;cases tg <;> first
    |exact ae hQ
    | (cases u <;> first
        |exact ae hQ
        | (refine aa (wpAny_load ho ?_)
           rw [hc,hd];show aF M A (if (["enumerate", "zip", "dict_itemiterator", "dict_reverseitemiterator", "odict_iterator", "itertools.zip_longest", "itertools.pairwise"].contains n&&vs[0]?==some (c9 _))=true then _ else _) Q E s
           rw [if_neg (by intro h; rw [hn,Bool.false_and] at h; cases h)]
           exact ae hQ))
def Itl(K:ar)(a:Addr):It :=
 ⟨λi H=>∃xs x,SqL K H a xs/\xs[i]?=some x,λi H x H'=>H'=H/\∀xs,SqL K H a xs->xs[i]?=some x,λi H=>∃xs,SqL K H a xs/\xs.length<=i⟩
def Itt(K:ar)(a:Addr):It :=
 ⟨λi H=>∃xs x,SqT K H a xs/\xs[i]?=some x,λi H x H'=>H'=H/\∀xs,SqT K H a xs->xs[i]?=some x,λi H=>∃xs,SqT K H a xs/\xs.length<=i⟩
def Itr(lo:Int)(n:Nat):It:=⟨λi _=>i<n,λi H x H'=>H'=H/\x=.int (lo+i),λi _=>n<=i⟩
theorem cQj{P:aE}{w:aQ}{K:ar}{tg:Expr}(a it:Addr):Turn P w K tg (Itl K a) [it] it (λi h=>h.IsListIter it a i) where
 mem:=by simp
 obj:=λi h st b j=>by
  have e:b=it:=by simpa using j
  subst e;obtain⟨o,e,c,d⟩:=st;exact⟨o,e,λv z=>by rw[d] at z;cases z⟩
 keep:=λi h h' st k=>st.at λo e=>k it (by simp) o e
 item:=by
  intro X O hw Y hc i pins s σ H E I hf st N;subst O hw Y;obtain⟨xs,x,D,L⟩:=N;obtain⟨its,J,p,hz⟩:=I.list D;obtain⟨u,hu,ru⟩:=J.get L;obtain⟨f0,f1,f2,Z,f4,f5⟩:=hf it (by simp)
  refine wpAny_pyNext_list_item st p.isList (x:=u) (by simpa using hu) λh' B sb=>?_
  have I1:Inv X pins σ H {s with heap:=h'}:=I.turned (t':=s.toks) (λb o j e=>(sb.2 b j).trans e) f0 f1 Z f4 f5
  obtain⟨o,e,c,d⟩:=id B;exact⟨u,rfl,cJ2 (s:={s with heap:=h'}) e c d (by decide) ⟨x,H,I1,ru,⟨rfl,λys hy=>by rw[I.list_inj hy D];exact L⟩,B,λb j=>(hf b j).1⟩⟩
 done:=by
  intro X O hw Y hc i pins s σ H E I hf st N;subst O hw Y;obtain⟨xs,D,L⟩:=N;obtain⟨its,J,p,hz⟩:=I.list D;obtain⟨f0,f1,f2,Z,f4,f5⟩:=hf it (by simp)
  have hl:=J.length;exact wpAny_pyNext_list_end (I.ok.hd hc) st p.isList (by simp;omega) λh' eb=>⟨rfl,I.turned (t':=s.toks) (λb o j e=>eb b o j e) f0 f1 Z f4 f5⟩
 self:=λ_ _ _ _ _ st h=>wpAny_pyIter_listiter st h
theorem bJv{P:aE}{w:aQ}{K:ar}{tg:Expr}(a it:Addr):Turn P w K tg (Itt K a) [it] it (λi h=>h.IsTupleIter it a i) where
 mem:=by simp
 obj:=λi h st b j=>by
  have e:b=it:=by simpa using j
  subst e;obtain⟨o,e,c,d⟩:=st;exact⟨o,e,λv z=>by rw[d] at z;cases z⟩
 keep:=λi h h' st k=>st.at λo e=>k it (by simp) o e
 item:=by
  intro X O hw Y hc i pins s σ H E I hf st N;subst O hw Y;obtain⟨xs,x,D,L⟩:=N;obtain⟨its,J,p,hz⟩:=I.tuple D;obtain⟨u,hu,ru⟩:=J.get L;obtain⟨f0,f1,f2,Z,f4,f5⟩:=hf it (by simp)
  refine wpAny_pyNext_tuple_item st (show s.heap.IsTuple a its.toArray from p) (x:=u) (by simpa using hu) λh' B sb=>?_
  have I1:Inv X pins σ H {s with heap:=h'}:=I.turned (t':=s.toks) (λb o j e=>(sb.2 b j).trans e) f0 f1 Z f4 f5
  obtain⟨o,e,c,d⟩:=id B;exact⟨u,rfl,cJ2 (s:={s with heap:=h'}) e c d (by decide) ⟨x,H,I1,ru,⟨rfl,λys hy=>by rw[I.tuple_inj hy D];exact L⟩,B,λb j=>(hf b j).1⟩⟩
 done:=by
  intro X O hw Y hc i pins s σ H E I hf st N;subst O hw Y;obtain⟨xs,D,L⟩:=N;obtain⟨its,J,p,hz⟩:=I.tuple D;obtain⟨f0,f1,f2,Z,f4,f5⟩:=hf it (by simp)
  have hl:=J.length;exact wpAny_pyNext_tuple_end (I.ok.hd hc) st (show s.heap.IsTuple a its.toArray from p) (by simp;omega) λh' eb=>⟨rfl,I.turned (t':=s.toks) (λb o j e=>eb b o j e) f0 f1 Z f4 f5⟩
 self:=λ_ _ _ _ _ st h=>wpAny_pyIter_tupleiter st h
theorem bJw{P:aE}{w:aQ}{K:ar}{tg:Expr}(it:Addr)(lo:Int)(n:Nat):Turn P w K tg (Itr lo n) [it] it (λi h=>IsRangeIter h it (lo+(i:Nat)*1) ((n:Int)-(i:Nat)) 1) where
 mem:=by simp
 obj:=λi h st b j=>by
  have e:b=it:=by simpa using j
  subst e;exact⟨_,st,λv z=>by
   have z':Data.fields _=Data.cell v:=z;cases z'⟩
 keep:=λi h h' st k=>k it (by simp) _ st
 item:=by
  intro X L hw N J i pins s σ H E I hf st D;subst L hw N;obtain⟨f0,f1,f2,O,f4,f5⟩:=hf it (by simp)
  have W:=Walks.range (prog:=X.prog) (w:=X.w) (I.ok.hd J) it lo 1 n;refine W.item i s _ _ D st λv h' Y hv B Z=>?_;obtain⟨t,rfl⟩:=hv;have I1:Inv X pins σ H {s with heap:=h',toks:=Y}:=I.turned (λb o j e=>Z b o (by simpa using j) e) f0 f1 O f4 f5
  refine⟨_,rfl,cJ2 (s:={s with heap:=h',toks:=Y}) (n:="range_iterator") B rfl rfl (by decide) ⟨.int (lo+i),H,I1,⟨t,?_⟩,⟨rfl,rfl⟩,B,λb j=>(hf b j).1⟩⟩
  rw[Int.mul_one]
 done:=by
  intro X L hw N J i pins s σ H E I hf st D;subst L hw N;obtain⟨f0,f1,f2,O,f4,f5⟩:=hf it (by simp)
  exact wpAny_pyNext_range_end (I.ok.hd J) st (by have:n<=i:=D;omega) λh' eb=>⟨rfl,I.turned (t':=s.toks) (λb o j e=>eb b o j e) f0 f1 O f4 f5⟩
 self:=λ_ _ _ _ _ st h=>wpAny_pyIter_rangeiter st h
section
variable{X:Cx}{tg:Expr}
theorem cJ3{pins:List (Addr×Obj)}{σ:St}{H:Hp}{s:ah}{R:It->Hp->Prop}{E:ad->ah->Prop}{lo hi:Int}{t u v:Tok}{tk:Nat}(I:Inv X pins σ H s)(h1:-(2^62)<=lo)(h2:lo<2^62)(h3:-(2^62)<=hi)(h4:hi<2^62)
  (q:R (Itr lo (hi-lo).toNat) H):aF (aB X.prog X.w) X.A (pyIter (.ref s.heap.objs.size)) (PIE X pins σ tg R) E {s with heap:=s.heap.push {cls:=.type "range",data:=.fields #[.int lo t,.int hi u,.int 1 v]},toks:=tk}:=by
 refine wpAny_pyIter_range (IsRange.new ..) (small_one h1 h2 h3 h4) ?_;have j:Inv X pins σ H {s with heap:=s.heap.push {cls:=.type "range",data:=.fields #[.int lo t,.int hi u,.int 1 v]},toks:=tk}:=I.kept λb o e=>af _ e
 refine⟨(s.heap.push { cls:=.type "range",data:=.fields #[.int lo t,.int hi u,.int 1 v] }).objs.size,[(s.heap.push { cls:=.type "range",data:=.fields #[.int lo t,.int hi u,.int 1 v] }).objs.size],_,_,H,rfl,
  j.kept (t':=tk) λb o e=>af _ e,bJw _ lo (hi-lo).toNat,?_,λb B=>?_,q⟩
 ·have e1:lo+((0:Nat):Int)*1=lo:=by simp
  have e2:(((hi-lo).toNat:Nat):Int)-((0:Nat):Int)=bU.Range.rangeSize lo hi 1:=by rw[rangeSize_one];split <;> omega
  show IsRangeIter _ _ (lo+((0:Nat):Int)*1) ((((hi-lo).toNat:Nat):Int)-((0:Nat):Int)) 1;rw[e1,e2];exact aq _ rfl
 ·have e:b=(s.heap.push {cls:=.type "range",data:=.fields #[.int lo t,.int hi u,.int 1 v]}).objs.size:=by simpa using B
  subst e;exact j.fpOk (Nat.le_refl _) (j.hok.fresh (Nat.le_refl _))
def eJw(ta:TA):TI:=fun σ H R=>ta σ H λvs H1=>∃j:Int,vs=[.int j]/\-(2^62)<=j/\j<2^62/\R (Itr 0 j.toNat) H1
theorem cQk{a:Expr}{ta:TA}{p pos:Pos}(hg:Gl X "range")(hm:X.mg "range"=none)(ha:PA X [a] ta)(hs:az [a] X.env=[(false,eval a X.env)]:=by rfl):PI X tg (.Call (.Name "range" p) [a] [] pos) (eJw ta):=by
 intro pins s σ H R I h;refine Call_ (ld_blt I hg hm boot_range (dQ (thn (ha pos pins s σ H _ I h) λus s1 ⟨vs,H1,J,r1,B⟩=>?_) hs rfl));obtain⟨j,e,B,D,q⟩:=B;subst e;cases r1 with
 |cons r rr =>
  cases rr;obtain⟨t,rfl⟩:=r;exact call_range_1 (cJ3 J (by omega) (by omega) B D (by simpa using q))
def tFor(wi:TI)(g:TG)(tb:TS):TS:=λD σ H=>wi σ H λJ H1=>∃W:Nat->Nat->St->Hp->Prop,(∃m,W 0 m σ H1)/\∀i m σ H,W i m σ H ->
 (J.stop i H/\D.nx σ H)\/(J.go i H/\∃N:St->Hp->Prop,(∀σ' H',N σ' H'->∃m',m'<m/\W (i+1) m' σ' H')/\∀x H',J.yld i H x H'->g x σ H' fun σ2 H2=>tb {D with nx:=N,ct:=N,bk:=D.nx} σ2 H2)
def bZd(fp:List Addr)(h:aX):List (Addr×Obj):=fp.filterMap λb=>(h.get? b).map λo=>(b,o)
theorem aX4{fp:List Addr}{h:aX}{b:Addr}{o:Obj}(hb:b∈fp)(e:h.get? b=some o):(b,o)∈bZd fp h:=List.mem_filterMap.mpr ⟨b,hb,by rw[e];rfl⟩
theorem cQl{fp:List Addr}{h:aX}{p:Addr×Obj}(hp:p∈bZd fp h):p.1∈fp/\h.get? p.1=some p.2:=by
 obtain⟨b,j,e⟩:=List.mem_filterMap.mp hp;cases q:h.get? b with
 |none=>rw[q] at e;cases e
 |some o =>
  rw[q] at e;have B:(b,o)=p:=aR e;subst B;exact⟨j,q⟩
theorem Inv.pinned{pins:List (Addr×Obj)}{σ:St}{H:Hp}{s:ah}{fp:List Addr}(I:Inv X pins σ H s)(hf:∀b∈fp,FpOk X pins H b)(ho:∀b∈fp,∃o,s.heap.get? b=some o/\∀v,o.data≠.cell v):Inv X (pins++bZd fp s.heap) σ H s :=
 I.pins_of λp B=>(aN.mp B).elim (λz=>I.pin p (bf _ z)) λz=>by
  obtain⟨j,e⟩:=cQl z;obtain⟨f0,f1,f2,_⟩:=hf p.1 j;obtain⟨o,e',d⟩:=ho p.1 j;rw[e] at e';cases e';exact⟨e,f0,f1,f2,d⟩
theorem Inv.unpinned{pins pl:List (Addr×Obj)}{σ:St}{H:Hp}{s:ah}(I:Inv X (pins++pl) σ H s):Inv X pins σ H s:=I.pins_of λp j=>I.pin p (bf _ (c5 _ j))
theorem eQn{iter:Expr}{body:List Stmt}{wi:TI}{g:TG}{tb:TS}{pos:Pos}(hp:PassesOwn (aB X.prog X.w) X.A X.env X.xe)(hc:X.calm=true)(hi:PI X tg iter wi)(hg:PG X tg g)(hb:PSs X body tb)
  (hs:∀x,cH iter X.env x=pure x:=by intro _;rfl):PS X (.For tg iter body [] pos) (tFor wi g tb):=by
 intro pins s σ H D I h;refine wpAny_For (thn (hi pins s σ H _ I h) λv s1 h1=>thn h1 λitv s2 h2=>?_) hs;obtain⟨it,fp,tn,J,H2,e,I2,T,st2,f2,W,⟨m0,w0⟩,turn⟩:=h2;subst e;have j:∀{H':Hp},(∀b∈fp,H' b=none)->∀b∈fp,FpOk X pins H' b:=λhn b hb=>⟨hn b hb,(f2 b hb).2⟩;refine codeAny_forLoop_any (λn s'=>∃i σ' H',Inv X pins σ' H' s'/\tn i s'.heap/\(∀b∈fp,H' b=none)/\W i n σ' H') ?_ m0 ⟨0,σ,H2,I2,st2,λb hb=>(f2 b hb).1,w0⟩;rintro n s3 ⟨i,σ3,H3,I3,Z,fr3,w3⟩;rcases turn i n σ3 H3 w3 with⟨stop,qn⟩|⟨go,N,hN,step⟩
 ·refine d7 hp (thn (T.done X rfl rfl rfl hc i pins s3 σ3 H3 X.xe I3 (j fr3) Z stop) λr s4 ⟨hr,I4⟩=>?_);subst hr;exact gM ⟨σ3,H3,I4,qn⟩
 ·refine d7 hp (thn (T.item X rfl rfl rfl hc i pins s3 σ3 H3 X.xe I3 (j fr3) Z go) λr s4 ⟨u,hr,h4⟩=>?_);subst hr;refine d7 hp (thn h4 λ_ s5 ⟨x,H5,I5,r5,y5,Y,fr5⟩=>?_);have I5':=I5.pinned (j fr5) (T.obj _ _ Y);refine d7 hp (thn (hg _ s5 σ3 H5 x u _ I5' r5 (step x H5 y5)) λ_ s6 ⟨σ6,H6,I6,q6⟩=>?_);refine d7 hp (thn (hb _ s6 σ6 H6 _ I6 q6) λf s7 O=>?_);have again:∀{σ7:St}{L:Hp},Inv X (pins++bZd fp s5.heap) σ7 L s7->N σ7 L->∃m,m<n/\∃i σ' H',Inv X pins σ' H' s7/\tn i s7.heap/\(∀b∈fp,H' b=none)/\W i m σ' H':=λ{σ7 L} B n7=>by
   obtain⟨m',hm,w7⟩:=hN σ7 L n7;refine⟨m',hm,i+1,σ7,L,B.unpinned,T.keep _ _ _ Y λb hb o e=>(B.pin (b,o) (bf _ (bf _ (aX4 hb e)))).1,λb hb=>?_,w7⟩;obtain⟨o,e,d⟩:=T.obj _ _ Y b hb;exact(B.pin (b,o) (bf _ (bf _ (aX4 hb e)))).2.1
  cases f with
  |next=>obtain⟨σ7,L,B,n7⟩:=O;exact again B n7
  |cont=>obtain⟨σ7,L,B,n7⟩:=O;exact again B n7
  |brk=>obtain⟨σ7,L,B,O⟩:=O;exact⟨σ7,L,B.unpinned,O⟩
  |ret v=>obtain⟨x7,σ7,L,B,r7,O⟩:=O;exact⟨x7,σ7,L,B.unpinned,r7,O⟩
end
abbrev R2:=V->V->Hp->VK->Prop
def OpR(X:Cx)(f:ad->ad->Sem ad)(r:R2):Prop :=
 ∀(pins:List (Addr×Obj)) (s:ah) (σ:St) (H:Hp) (x y:V) (v u:ad) (Q:VK),Inv X pins σ H s->RelV x v->RelV y u->r x y H Q ->
  aF (aB X.prog X.w) X.A (f v u) (EP X pins σ Q) X.xe s
def UnR(X:Cx)(f:ad->Sem ad)(r:V->Hp->VK->Prop):Prop :=
 ∀(pins:List (Addr×Obj)) (s:ah) (σ:St) (H:Hp) (x:V) (v:ad) (Q:VK),Inv X pins σ H s->RelV x v->r x H Q ->
  aF (aB X.prog X.w) X.A (f v) (EP X pins σ Q) X.xe s
def CallR(X:Cx)(f:ad)(r:List V->Hp->VK->Prop):Prop :=
 ∀(pins:List (Addr×Obj)) (s:ah) (σ:St) (H:Hp) (xs:List V) (us:List ad) (Q:VK),Inv X pins σ H s->Vals xs us->r xs H Q ->
  aF (aB X.prog X.w) X.A (call f us) (EP X pins σ Q) X.xe s
def TruR(X:Cx)(r:V->Hp->(Bool->Hp->Prop)->Prop):Prop :=
 ∀(pins:List (Addr×Obj)) (s:ah) (σ:St) (H:Hp) (x:V) (v:ad) (Q:Bool->Hp->Prop),Inv X pins σ H s->RelV x v->r x H Q ->
  aF (aB X.prog X.w) X.A (truthy v) (TP X pins σ Q) X.xe s
def tOp(r:R2)(ta tb:TE):TE:=fun σ H Q=>ta σ H λx H1=>tb σ H1 λy H2=>r x y H2 Q
def tUn(r:V->Hp->VK->Prop)(ta:TE):TE:=fun σ H Q=>ta σ H λx H1=>r x H1 Q
def rI(C:Int->Int->Prop)(g:Int->Int->V):R2:=λx y H Q=>∃i j,x=.int i/\y=.int j/\C i j/\Q (g i j) H
def rI0(g:Int->Int->V):R2:=λx y H Q=>∃i j,x=.int i/\y=.int j/\Q (g i j) H
def rU(g:Int->V):V->Hp->VK->Prop:=λx H Q=>∃i,x=.int i/\Q (g i) H
section
variable{X:Cx}{a b c:Expr}{ta tb tc:TE}{pos:Pos}
theorem binT(ha:PE X a ta)(hb:PE X b tb){pins:List (Addr×Obj)}{s:ah}{σ:St}{H:Hp}{R:V->V->Hp->Prop}(I:Inv X pins σ H s)
  (h:ta σ H λx H1=>tb σ H1 λy H2=>R x y H2) {Q:ad->ah->Prop}{f:ad->ad->Sem ad}
  (hf:∀v u s2 x y H2,Inv X pins σ H2 s2->RelV x v->RelV y u->R x y H2->aF (aB X.prog X.w) X.A (f v u) Q X.xe s2) :
  aF (aB X.prog X.w) X.A (eval a X.env) (λv s₁=>aF (aB X.prog X.w) X.A (eval b X.env) (λu s₂=>aF (aB X.prog X.w) X.A (f v u) Q X.xe s₂) X.xe s₁) X.xe s:=by
 refine thn (ha pins s σ H _ I h) λv s1 ⟨x,H1,N,B,J⟩=>?_;refine thn (hb pins s1 σ H1 _ N J) λu s2 ⟨y,H2,L,j,D⟩=>?_;exact hf v u s2 x y H2 L B j D
theorem eJx{op:Operator}{r:R2}(ho:OpR X (ef op) r)(ha:PE X a ta)(hb:PE X b tb):PE X (.BinOp a op b pos) (tOp r ta tb):=by
 intro pins s σ H Q I h;exact wpAny_BinOp (binT ha hb I h λv u s2 x y H2 D B j q=>ho pins s2 σ H2 x y v u Q D B j q)
theorem eJy{op:UnaryOp}{r:V->Hp->VK->Prop}(ho:UnR X (unaryOp op) r)(ha:PE X a ta):PE X (.UnaryOp op a pos) (tUn r ta):=by
 intro pins s σ H Q I h;exact UnaryOp_ (thn (ha pins s σ H _ I h) λv s1 ⟨x,H1,D,j,B⟩=>ho pins s1 σ H1 x v Q D j B)
theorem opI{f:ad->ad->Sem ad}{C:Int->Int->Prop}{g:Int->Int->Int}
  (rule:∀(i j:Int) (t u:Tok) (s:ah) (Q:ad->ah->Prop) (E:ad->ah->Prop),C i j->Q (.int (g i j) s.toks) {s with toks:=s.toks+1}->aF (aB X.prog X.w) X.A (f (.int i t) (.int j u)) Q E s) :
  OpR X f (rI C λi j=>.int (g i j)):=by
 intro pins s σ H x y v u Q I J D h;obtain⟨i,j,rfl,rfl,L,q⟩:=h;obtain⟨t,rfl⟩:=J;obtain⟨B,rfl⟩:=D;exact rule i j t B s _ _ L ⟨.int (g i j),H,I.tok _,⟨_,rfl⟩,q⟩
theorem opI0{f:ad->ad->Sem ad}{g:Int->Int->Int}
  (rule:∀(i j:Int) (t u:Tok) (s:ah) (Q:ad->ah->Prop) (E:ad->ah->Prop),Q (.int (g i j) s.toks) {s with toks:=s.toks+1}->aF (aB X.prog X.w) X.A (f (.int i t) (.int j u)) Q E s) :
  OpR X f (rI0 λi j=>.int (g i j)):=by
 intro pins s σ H x y v u Q I J D h;obtain⟨i,j,rfl,rfl,q⟩:=h;obtain⟨t,rfl⟩:=J;obtain⟨B,rfl⟩:=D;exact rule i j t B s _ _ ⟨.int (g i j),H,I.tok _,⟨_,rfl⟩,q⟩
theorem opB0{f:ad->ad->Sem ad}{g:Int->Int->Bool}
  (rule:∀(i j:Int) (t u:Tok) (s:ah) (Q:ad->ah->Prop) (E:ad->ah->Prop),Q (.bool (g i j)) s->aF (aB X.prog X.w) X.A (f (.int i t) (.int j u)) Q E s) :
  OpR X f (rI0 λi j=>.bl (g i j)):=by
 intro pins s σ H x y v u Q I J D h;obtain⟨i,j,rfl,rfl,q⟩:=h;obtain⟨t,rfl⟩:=J;obtain⟨B,rfl⟩:=D;exact rule i j t B s _ _ ⟨.bl (g i j),H,I,rfl,q⟩
def CDiv(i j:Int):Prop:=0<j/\j<1073741824
def CPow(i j:Int):Prop:=0<=j/\j<=1000000/\i.natAbs<2^64
def CMul(i j:Int):Prop:=(-(2^64)<i/\i<2^64)\/(-(2^64)<j/\j<2^64)
theorem CMul.ok{i j:Int}(h:CMul i j):IntMulOk i j:=by
 rcases h with⟨h1,h2⟩|⟨h1,h2⟩
 ·exact .of_left (intBits_le_64 h1 h2)
 ·exact .of_right (intBits_le_64 h1 h2)
theorem op_add:OpR X (ef .Add) (rI0 λi j=>.int (i+j)):=opI0 λ_ _ _ _ _ _ _ q=>add_int q
theorem eQo:OpR X (ef .Sub) (rI0 λi j=>.int (i-j)):=opI0 λ_ _ _ _ _ _ _ q=>sub_int q
theorem eQp:OpR X (ef .Mult) (rI CMul λi j=>.int (i*j)):=opI λ_ _ _ _ _ _ _ B q=>mul_int q B.ok
theorem dZe:OpR X (ef .FloorDiv) (rI CDiv λi j=>.int (i/j)):=opI λi j _ _ _ _ _ B q=>by
 have h1:(0:Int)<j:=B.1;have h2:j<1073741824:=B.2;exact floordiv_int (by omega) (by rw[Int.fdiv_eq_ediv_of_nonneg i (by omega)];exact q) (.inl (PyProof.noPylong_small (by omega)))
theorem eQq:OpR X (ef .Mod) (rI (λ_ j=>0<j) λi j=>.int (i%j)):=opI λi j _ _ _ _ _ B q=>by
 have h1:(0:Int)<j:=B;exact mod_int' (by omega) (by rw[Int.fmod_eq_emod_of_nonneg i (by omega)];exact q)
theorem eQr:OpR X (ef .Pow) (rI CPow λi j=>.int (i^j.toNat)):=opI λ_ _ _ _ _ _ _ B q=>pow_int_small B.1 B.2.1 B.2.2 q
theorem unI{f:ad->Sem ad}{g:Int->Int}
  (rule:∀(i:Int) (t:Tok) (s:ah) (Q:ad->ah->Prop) (E:ad->ah->Prop),Q (.int (g i) s.toks) {s with toks:=s.toks+1}->aF (aB X.prog X.w) X.A (f (.int i t)) Q E s) :
  UnR X f (rU λi=>.int (g i)):=by
 intro pins s σ H x v Q I j h;obtain⟨i,rfl,q⟩:=h;obtain⟨t,rfl⟩:=j;exact rule i t s _ _ ⟨.int (g i),H,I.tok _,⟨_,rfl⟩,q⟩
theorem eQs:UnR X (unaryOp .USub) (rU λi=>.int (-i)):=unI λ_ _ _ _ _ q=>neg_int q
end
section
variable{X:Cx}{a b c:Expr}{ta tb tc:TE}{pos:Pos}
theorem cQm{pins:List (Addr×Obj)}{σ:St}{H:Hp}{s:ah}{Q:VK}{k k':Bool}(I:Inv X pins σ H s)(q:Q (.bl k) H)(e:k=k'):EP X pins σ Q (.bool k') s:=by
 subst e;exact⟨.bl k,H,I,rfl,q⟩
theorem op_lt:OpR X (cC .Lt) (rI0 λi j=>.bl (decide (i<j))):=opB0 λ_ _ _ _ _ _ _ q=>lt_int q
theorem eJz:OpR X (cC .Gt) (rI0 λi j=>.bl (decide (j<i))):=opB0 λ_ _ _ _ _ _ _ q=>gt_int q
theorem fQ0:OpR X (cC .GtE) (rI0 λi j=>.bl (decide (j<=i))):=opB0 λ_ _ _ _ _ _ _ q=>ge_int q
theorem op_lt_str:OpR X (cC .Lt) (λx y H Q=>∃i j,x=.str i/\y=.str j/\Q (.bl (decide (i.cps.toList<j.cps.toList))) H):=by
 intro pins s σ H x y v u Q I D B h;obtain⟨i,j,rfl,rfl,q⟩:=h;obtain⟨t,rfl⟩:=D;obtain⟨J,rfl⟩:=B;exact lt_str (cQm I q rfl)
theorem eQt:OpR X (cC .Is) (λx y H Q=>y=.non/\Q (.bl (decide (x=.non))) H):=by
 intro pins s σ H x y v u Q I rx ry h;obtain⟨rfl,q⟩:=h;cases ry;refine is_none_gen (cQm I q ?_);cases x <;> first
  |(cases rx;rfl)
  |(obtain⟨t,rfl⟩:=rx;rfl)
theorem dZf:OpR X (cC .IsNot) (λx y H Q=>y=.non/\Q (.bl (!decide (x=.non))) H):=by
 intro pins s σ H x y v u Q I rx ry h;obtain⟨rfl,q⟩:=h;cases ry;refine isnot_none_gen (cQm I q ?_);cases x <;> first
  |(cases rx;rfl)
  |(obtain⟨t,rfl⟩:=rx;rfl)
theorem OpR.or{f:ad->ad->Sem ad}{r r':R2}(h:OpR X f r)(h':OpR X f r'):OpR X f (λx y H Q=>r x y H Q\/r' x y H Q):=by
 intro pins s σ H x y v u Q I B j q;rcases q with q|q
 ·exact h pins s σ H x y v u Q I B j q
 ·exact h' pins s σ H x y v u Q I B j q
theorem nomark(b:Expr){op:CmpOp}(h:op≠.In:=by decide)(h2:op≠.NotIn:=by decide):dX op b=false:=by
 have e1:(op==CmpOp.In)=false:=by cases op <;> first|rfl|exact absurd rfl h
 have e2:(op==CmpOp.NotIn)=false:=by cases op <;> first|rfl|exact absurd rfl h2
 cases b <;> simp[dX,e1,e2]
theorem dZg{op:CmpOp}{r:R2}(ho:OpR X (cC op) r)(ha:PE X a ta)(hb:PE X b tb)(hm:dX op b=false):PE X (.Compare a [op] [b] pos) (tOp r ta tb):=by
 intro pins s σ H Q I h;exact wpAny_Compare1 (binT ha hb I h λv u s2 x y H2 D B j q=>ho pins s2 σ H2 x y v u Q D B j q) hm
def eQu(t:TE):TT:=fun σ H Q=>t σ H λx H'=>∃k,x=.bl k/\Q k H'
theorem dZh{op:CmpOp}{r:R2}(ho:OpR X (cC op) r)(ha:PE X a ta)(hb:PE X b tb)(hm:dX op b=false):PT X (.Compare a [op] [b] pos) (eQu (tOp r ta tb)):=by
 intro pins s σ H Q I h;refine wpAny_isTrue_Compare1 (thn (ha pins s σ H _ I h) λv s1 ⟨x,H1,Y,B,L⟩=>thn (hb pins s1 σ H1 _ Y L) λu s2 ⟨y,H2,O,j,J⟩ =>
  thn (ho pins s2 σ H2 x y v u _ O B j J) λc s3 ⟨z,Z,N,r3,k,e,D⟩=>?_) hm
 subst e;cases r3;exact eh ⟨Z,N,D⟩
def TruV(K:ar)(x:V)(H:Hp)(k:Bool):Prop :=
 match x with
 |.non=>k=false
 |.bl b=>k=b
 |.int i=>k=(i !=0)
 |.str y=>y.length<=sizeLine/\k=((y.length:Int) !=0)
 |.byt y=>y.size<=sizeLine/\k=((y.size:Int) !=0)
 |.ref p=>(∃xs,SqL K H p xs/\k=!xs.isEmpty)\/(∃xs,SqT K H p xs/\k=!xs.isEmpty)\/∃kvs,H p=some (.dK kvs)/\k=!kvs.isEmpty
 |_=>False
theorem bJx{κ:Type}{kvs:List (κ×V)}{vs:List (κ×ad)}(r:KV kvs vs):(!vs.isEmpty)=!kvs.isEmpty:=by
 cases r <;> rfl
theorem aXo{xs:List V}{its:List ad}(r:Vals xs its):(!its.toArray.isEmpty)=!xs.isEmpty:=by
 cases r <;> simp
theorem aJi:(sizeLine:Nat)<2^63:=by rw[bn];decide
theorem eQv:TruR X (λx H Q=>∃k,TruV X.K x H k/\Q k H):=by
 intro pins s σ H x v Q I rx h;obtain⟨k,e,q⟩:=h;have hl:=aJi;have hs:sizeLine=16777216:=bn;cases x with
 |non =>
  cases rx;have j:k=false:=e;subst j;exact truthy_none ⟨H,I,q⟩
 |bl b =>
  cases rx;have j:k=b:=e;subst j;exact eh ⟨H,I,q⟩
 |int i =>
  obtain⟨t,rfl⟩:=rx;have j:k=(i !=0):=e;subst j;exact PySem.P.truthy_int ⟨H,I,q⟩
 |str y =>
  obtain⟨t,rfl⟩:=rx;obtain⟨J,j⟩:y.length<=sizeLine/\k=((y.length:Int) !=0):=e;subst j;exact PySem.P.truthy_str (by omega) ⟨H,I.tok _,q⟩
 |byt y =>
  obtain⟨t,rfl⟩:=rx;obtain⟨J,j⟩:y.size<=sizeLine/\k=((y.size:Int) !=0):=e;subst j;exact PySem.W.truthy_bytes (by omega) ⟨H,I.tok _,q⟩
 |ref p =>
  cases rx;have j:(∃xs,SqL X.K H p xs/\k=!xs.isEmpty)\/(∃xs,SqT X.K H p xs/\k=!xs.isEmpty)\/∃kvs,H p=some (.dK kvs)/\k=!kvs.isEmpty:=e;rcases j with⟨xs,B,j⟩|⟨xs,B,j⟩|⟨kvs,B,j⟩
  ·subst j;obtain⟨its,r,pl,D⟩:=I.list B;have hlen:=r.length;exact wpAny_truthy_list pl.isList (by simp only[av];omega) ⟨H,I.tok _,by rw[aXo r];exact q⟩
  ·subst j;obtain⟨its,r,pl,D⟩:=I.tuple B;have hlen:=r.length;exact truthy_tuple pl (by simp only[av];omega) ⟨H,I.tok _,by rw[aXo r];exact q⟩
  ·subst j;obtain⟨D,L,vs,r,m⟩:kvs.length<=sizeLine/\(p==e9)=false/\∃vs,KV kvs vs/\s.heap.DictOf (aQd X.prog X.w) p vs:=I.hok p _ B;have hlen:kvs.length=vs.length:=dW r;exact wpAny_truthy_dict L m (by omega) ⟨H,I.tok _,by rw[bJx r];exact q⟩
 |_=>exact(show False from e).elim
theorem cJ4(ha:PE X a ta)(he:∀whole,isTrue a X.env whole=(do let v <- whole;fF a.pos;ft [v] (truthy v))) :
  PT X a (fun σ H Q=>ta σ H λx H'=>∃k,TruV X.K x H' k/\Q k H'):=by
 intro pins s σ H Q I h;exact isTrue_plain (thn (ha pins s σ H _ I h) λv s1 ⟨x,H1,D,j,B⟩=>eQv pins s1 σ H1 x v Q D j B) (he _)
theorem op_add_str:OpR X (ef .Add) (λx y H Q=>∃i j,x=.str i/\y=.str j/\i.length+j.length<=sizeLine/\Q (.str (i++j)) H):=by
 intro pins s σ H x y v u Q I J D h;obtain⟨i,j,rfl,rfl,L,q⟩:=h;obtain⟨t,rfl⟩:=J;obtain⟨B,rfl⟩:=D;exact add_str (λB N=>⟨.str (i++j),H,I.tok _,⟨_,rfl⟩,q⟩) L
theorem aXb{x:V}{us:List ad}(r:Vals [x] us):∃u,us=[u]/\RelV x u:=by
 cases r with
 |cons j r2=>cases r2;exact⟨_,rfl,j⟩
theorem fQ1{x y:V}{us:List ad}(r:Vals [x,y] us):∃u w',us=[u,w']/\RelV x u/\RelV y w':=by
 cases r with
 |cons B r2 =>
  cases r2 with
  |cons j r4=>cases r4;exact⟨_,_,rfl,B,j⟩
theorem cJ5:CallR X (.builtin "abs") (λxs H Q=>∃i,xs=[.int i]/\Q (.int (if i<0 then -i else i)) H):=by
 intro pins s σ H xs us Q I r h;obtain⟨i,rfl,q⟩:=h;obtain⟨u,rfl,t,rfl⟩:=aXb r;exact call_abs_int λu j=>⟨.int (if i<0 then -i else i),H,I.tok _,⟨_,rfl⟩,q⟩
theorem cQn(hc:X.calm=true):CallR X (.builtin "min") (λxs H Q=>∃i j,xs=[.int i,.int j]/\Q (.int (if j<i then j else i)) H):=by
 intro pins s σ H xs us Q I r h;obtain⟨i,j,rfl,q⟩:=h;obtain⟨u,D,rfl,⟨t,rfl⟩,⟨L,rfl⟩⟩:=fQ1 r;refine min_two_ints (I.ok.hd hc) λh' J k=>⟨_,H,I.kept k,?_,q⟩
 by_cases B:j<i
 ·rw[if_pos B,if_pos B];exact⟨_,rfl⟩
 ·rw[if_neg B,if_neg B];exact⟨_,rfl⟩
theorem cQo:CallR X (.type "int") (λxs H Q=>(∃i,xs=[.int i]/\Q (.int i) H)\/∃k,xs=[.bl k]/\Q (.int (if k then 1 else 0)) H):=by
 intro pins s σ H xs us Q I r h;rcases h with⟨i,rfl,q⟩|⟨k,rfl,q⟩
 ·obtain⟨u,rfl,t,rfl⟩:=aXb r;exact call_int_int ⟨.int i,H,I,⟨_,rfl⟩,q⟩
 ·obtain⟨u,rfl,r1⟩:=aXb r;cases r1;exact call_int_bool ⟨.int (if k then 1 else 0),H,I.tok _,⟨_,rfl⟩,q⟩
def LenV(K:ar)(x:V)(H:Hp)(n:Nat):Prop :=
 match x with
 |.str y=>y.length<=sizeLine/\n=y.length
 |.byt y=>y.size<=sizeLine/\n=y.size
 |.ref p=>(∃xs,SqL K H p xs/\n=xs.length)\/∃xs,SqT K H p xs/\n=xs.length
 |_=>False
theorem cJ6:CallR X (.builtin "len") (λxs H Q=>∃x n,xs=[x]/\LenV X.K x H n/\Q (.int n) H):=by
 intro pins s σ H xs us Q I r h;obtain⟨x,n,rfl,e,q⟩:=h;obtain⟨u,rfl,rx⟩:=aXb r;have hl:=aJi;have hs:sizeLine=16777216:=bn;cases x with
 |str y =>
  obtain⟨t,rfl⟩:=rx;obtain⟨L,j⟩:y.length<=sizeLine/\n=y.length:=e;subst j;exact len_str (by omega) ⟨.int _,H,I.tok _,⟨_,rfl⟩,q⟩
 |byt y =>
  obtain⟨t,rfl⟩:=rx;obtain⟨L,j⟩:y.size<=sizeLine/\n=y.size:=e;subst j;exact PySem.W.len_bytes (by omega) ⟨.int _,H,I.tok _,⟨_,rfl⟩,q⟩
 |ref p =>
  cases rx;have j:(∃xs,SqL X.K H p xs/\n=xs.length)\/∃xs,SqT X.K H p xs/\n=xs.length:=e;rcases j with⟨xs,D,j⟩|⟨xs,D,j⟩
  ·subst j;obtain⟨its,B,pl,J⟩:=I.list D;have hlen:=B.length;exact Calls.call_len_list pl.isList (by simp only[av];omega) ⟨.int xs.length,H,I.tok _,⟨_,by simp only[av];rw[hlen]⟩,q⟩
  ·subst j;obtain⟨its,B,pl,J⟩:=I.tuple D;have hlen:=B.length;exact len_tuple pl (by simp only[av];omega) ⟨.int xs.length,H,I.tok _,⟨_,by simp only[av];rw[hlen]⟩,q⟩
 |_=>exact(show False from e).elim
end
theorem RelO.some_of{v:V}{o:Option ad}(r:RelO (some v) o):∃u,o=some u/\RelV v u:=by
 cases o with
 |none=>exact(show False from r).elim
 |some u=>exact⟨u,rfl,r⟩
structure Room(k:Nat)(A:aW):Prop where
 hd:A.handled=none
 dp:A.depth+3*k+5<g7
 un:A.units+16*k+200<de
theorem Room.mono{j k:Nat}{A:aW}(r:Room k A)(h:j<=k):Room j A:=⟨r.hd,by have:=r.dp;omega,by have:=r.un;omega⟩
theorem Room.deeper{k:Nat}{A:aW}(r:Room (k+1) A)(env:Env):Room k (A.deeper env) :=
 ⟨r.hd,by have:=r.dp;show A.depth+1+3*k+5<_;omega,by have:=r.un;show A.units+3+16*k+200<_;omega⟩
theorem Room.in1{k:Nat}{A:aW}(r:Room (k+1) A):Room k A.in1 :=
 ⟨r.hd,by have:=r.dp;show A.depth+3*k+5<_;omega,by have:=r.un;show A.units+1+16*k+200<_;omega⟩
theorem Room.depth{k:Nat}{A:aW}(r:Room k A):A.depth<g7:=by have:=r.dp;omega
theorem Room.units{k:Nat}{A:aW}(r:Room k A):A.units+64<de:=by have:=r.un;omega
theorem Room.units0{k:Nat}{A:aW}(r:Room k A):A.units<de:=by have:=r.un;omega
def tNil:TA:=λ_ H Q=>Q [] H
def fQ2(ta:TE)(tr:TA):TA:=fun σ H Q=>ta σ H λx H1=>tr σ H1 λxs H2=>Q (x::xs) H2
section
variable{X:Cx}{e:Expr}{es:List Expr}{te:TE}{t:TA}{pos:Pos}
theorem dQj:PA X [] tNil:=λ_ _ _ _ H Q I h=>fR ⟨[],H,I,.nil,h⟩
theorem cQp(ha:PE X e te)(hr:PA X es t)(hs:az (e::es) X.env=(false,eval e X.env)::az es X.env:=by rfl):PA X (e::es) (fQ2 te t):=by
 intro pos pins s σ H Q I h;rw[hs];show aF _ _ (spliced ((false,eval e X.env)::cq pos (az es X.env))) _ _ s;refine eM (thn (ha pins s σ H _ I h) λu s1 ⟨x,H1,N,B,J⟩=>?_);exact thn (hr pos pins s1 σ H1 _ N J) λus s2 ⟨xs,H2,L,j,D⟩=>⟨x::xs,H2,L,.cons B j,D⟩
def tTup(t:TA):TE:=fun σ H Q=>t σ H λxs H1=>xs.length<=sizeLine/\∀p,H1 p=none->Q (.ref p) (upd H1 p (.tup xs))
def tLst(t:TA):TE:=fun σ H Q=>t σ H λxs H1=>xs.length<=sizeLine/\∀p,H1 p=none->Q (.ref p) (upd H1 p (.lst xs))
theorem eQw{x1}(h:PA X es t):PE X (.Tuple es x1 pos) (tTup t):=by
 intro pins s σ H Q I B;refine wpAny_Tuple_spliced (thn (h pos pins s σ H _ I B) λus s1 ⟨xs,H1,j,r,z,q⟩=>⟨by rw[<- r.length];exact z,?_⟩)
 have hf:H1 s1.heap.objs.size=none:=j.hok.fresh (Nat.le_refl _);refine⟨.ref s1.heap.objs.size,upd H1 s1.heap.objs.size (.tup xs),j.laid (t':=s1.toks) (λb u e=>af _ e) (Nat.le_refl _) ?_,rfl,q _ hf⟩;exact⟨z,us,r,⟨_,aq _ rfl,rfl,_,rfl⟩,bJ0⟩
theorem eQx(h:PA X es t):PE X (.List es pos) (tLst t):=by
 intro pins s σ H Q I B;refine wpAny_List_spliced (thn (h pos pins s σ H _ I B) λus s1 ⟨xs,H1,j,r,z,q⟩=>⟨by rw[<- r.length];exact z,?_⟩)
 have hf:H1 s1.heap.objs.size=none:=j.hok.fresh (Nat.le_refl _);refine⟨.ref s1.heap.objs.size,upd H1 s1.heap.objs.size (.lst xs),j.laid (t':=s1.toks) (λb u e=>af _ e) (Nat.le_refl _) ?_,rfl,q _ hf⟩;exact⟨z,us,0,r,aq _ rfl⟩
end
abbrev Sp:=List V->Hp->VK->XK->Prop
abbrev CXT:=List Env->Hp->ah->XK->ad->ah->Prop
structure Env0(P:aE)(w:aQ)(K:ar)(mg:Str->Option ad)(base:aX)(A:aW)(outer:List Env)(s:ah)(H:Hp):Prop where
 frames:A.frames=some outer
 gd:A.guards=some []
 mod:Mod K mg base
 bs:∀b o,base.get? b=some o->s.heap.get? b=some o/\H b=none
 bsz:base.objs.size<=s.heap.objs.size
 funs:s.heap.FunFrames base outer
 frf:∀b∈frs outer,H b=none
 hok:HOk P w H s.heap
 bare:ir s.gens
def CE(outer:List Env)(P:aE)(w:aQ)(H:Hp)(s:ah)(Q:VK)(u:ad)(s':ah):Prop :=
 ∃v H',s'.os=s.os/\ir s'.gens/\Un (frs outer) [] H H' s.heap s'.heap/\HOk P w H' s'.heap/\RelV v u/\Q v H'
def CR(CX:CXT)(outer:List Env)(P:aE)(w:aQ)(H:Hp)(s:ah)(Q:VK)(E:XK)(r:Result)(s':ah):Prop :=
 match r with
 |.ok (.ret u)=>CE outer P w H s Q u s'
 |.ok _=>False
 |.error e=>CX outer H s E e s'
structure FnOk(P:aE)(w:aQ)(K:ar)(mg:Str->Option ad)(base:aX)(CX:CXT)(k:Nat)(f:Addr)(fd:c6)(ps:List Str)(sp:Sp):Prop where
 len:∀vs H Q E,sp vs H Q E->vs.length=ps.length
 run:∀(A:aW) (outer:List Env) (s:ah) (H:Hp) (args:Args) (us:List ad) (vs:List V) (Q:VK) (E:XK),Room k A->Env0 P w K mg base A outer s H->BindsTo s fd args (ps.zip us)->Vals vs us->sp vs H Q E ->
  eN (aB P w) A (.call (.ref f) args) (CR CX outer P w H s Q E) s
theorem FnOk.mono{P:aE}{w:aQ}{K:ar}{mg:Str->Option ad}{base:aX}{CX:CXT}{j k:Nat}{f:Addr}{fd:c6}{ps:List Str}{sp:Sp}(F:FnOk P w K mg base CX j f fd ps sp)(h:j<=k) :
  FnOk P w K mg base CX k f fd ps sp:=⟨F.len,λA outer s H args us vs Q E B=>F.run A outer s H args us vs Q E (B.mono h)⟩
section
variable{X:Cx}{pins:List (Addr×Obj)}{σ:St}{H:Hp}{s s':ah}
theorem Inv.env0(I:Inv X pins σ H s):Env0 X.prog X.w X.K X.mg X.base X.A X.stack s H :=
 ⟨I.ok.frames,I.ok.gd,I.ok.mod,I.bs,Nat.le_trans I.ok.bsz I.sz,I.stack,I.stkFree,I.hok,I.bare⟩
theorem Inv.after{Q:VK}{u:ad}(I:Inv X pins σ H s)(h:CE X.stack X.prog X.w H s Q u s'):EP X pins σ Q u s':=by
 obtain⟨v,H',os,bare,un,hok,r,q⟩:=h;obtain⟨hh,g,d,t,j⟩:=s';obtain rfl:j=s.os:=os;exact⟨v,H',I.call (h':=hh) (g':=g) (d':=d) (t':=t) (ch:=[]) un hok bare (λb z=>absurd z (by simp)),r,q⟩
end
def eQy(sp:Sp)(dvs:List V)(E:XK)(t:TA):TE:=fun σ H Q=>t σ H λvs H1=>sp (vs++dvs) H1 Q E
def Binds(K:ar)(fd:c6)(ps:List Str)(ds:List ad):Prop :=
 ∀(s:ah) (us:List ad),K.In s.heap->(us++ds).length=ps.length->BindsTo s fd ⟨us,[]⟩ (ps.zip (us++ds))
theorem Binds.all{K:ar}{fd:c6}{ps:List Str}(h:∀us:List ad,us.length=ps.length->bindArgs fd ⟨us,[]⟩=pure (ps.zip us)):Binds K fd ps []:=λs us _ hl=>by
 rw[br] at hl ⊢;exact .of_eq (h us hl)
def cQq(CX:CXT)(X:Cx)(E:XK):Prop:=∀(pins:List (Addr×Obj)) (σ:St) (H:Hp) (s:ah) (e:ad) (s':ah),Inv X pins σ H s->CX X.stack H s E e s'->X.xe e s'
section
variable{X:Cx}{CX:CXT}{k:Nat}{f C:Addr}{fd:c6}{ps:List Str}{sp:Sp}{dvs:List V}{ds:List ad}{E:XK}{x m:Str}{p pos apos:Pos}{e o:Expr}{es:List Expr}{ta:TE}{t:TA}
theorem eQz{pins:List (Addr×Obj)}{σ:St}{H:Hp}{s:ah}{Q:VK}{us:List ad}{vs:List V}(F:FnOk X.prog X.w X.K X.mg X.base CX k f fd ps sp)(hr:Room k X.A)(hb:Binds X.K fd ps ds)(hd:Vals dvs ds)(hx:cQq CX X E)
  (I:Inv X pins σ H s) (r:Vals vs us) (h:sp (vs++dvs) H Q E):aF (aB X.prog X.w) X.A (call (.ref f) us) (EP X pins σ Q) X.xe s:=by
 have B:Vals (vs++dvs) (us++ds):=r.append hd;have hl:(us++ds).length=ps.length:=by rw[<- B.length];exact F.len _ _ _ _ h
 refine wpAny_call (codeAny_mono (F.run X.A X.stack s H ⟨us,[]⟩ (us++ds) (vs++dvs) Q E hr I.env0 (hb s us I.kIn hl) B h) λr s' j=>?_);cases r with
 |error e=>exact hx pins σ H s e s' I j
 |ok fl =>
  cases fl with
  |ret u=>exact I.after j
  |next=>exact db j
  |brk=>exact db j
  |cont=>exact db j
theorem dZi(F:FnOk X.prog X.w X.K X.mg X.base CX k f fd ps sp)(hr:Room k X.A)(hg:Gl X x)(hm:X.mg x=some (.ref f))(hk:fc X.K (.ref f)=true)(hb:Binds X.K fd ps ds)(hd:Vals dvs ds)(hx:cQq CX X E)
  (ha:PA X (e::es) t) (hdb:(x==("__debug__":Str))=false:=by decide) (he:az (e::es) X.env=(false,eval e X.env)::az es X.env:=by rfl) (hpl:(cq pos (az es X.env)).any (·.1)=false:=by rfl) :
  PE X (.Call (.Name x p) (e::es) [] pos) (eQy sp dvs E t):=by
 intro pins s σ H Q I h;refine eO (ld_glob I hg hm ?_ hdb);refine PySem.W.callWith_K (h₀:=X.base) I.ok.mod.kin hk (thn (ha pos pins s σ H _ I h) λus s1 ⟨vs,H1,j,r,q⟩=>⟨j.kIn,?_⟩) he hpl;exact eQz F hr hb hd hx j r q
end
structure FnScope(N P:List Str)(sc:Scope):Prop where
 kind:sc.kind=.function
 co:sc.isCoroutine=false
 gen:sc.isGenerator=false
 nd:N.Nodup
 pre:N.take P.length=P
 par:∀x∈P,sc.names.lookup x=some .local\/sc.names.lookup x=some .cell
 nofree:∀y∈sc.names,y.2≠.free
theorem bZe{kindOf:Str->Option eV}{x:Str}:∀{binds:List (Str×ad)}{m:Str->Option ad},(∀v,(x,v)∉binds)->bindL kindOf binds m x=m x
 |[],_,_=>rfl
 |(n,v)::r,m,h=>by
  unfold bindL;rw[bZe λw hw=>h w (ay _ hw)]
  split
  ·have:x≠n:=by rintro rfl;exact h v au
   simp[this]
  ·rfl
theorem bindC_out{kindOf:Str->Option eV}{x:Str}:∀{binds:List (Str×ad)}{m:Str->Option ad},(∀v,(x,v)∉binds)->bindC kindOf binds m x=m x
 |[],_,_=>rfl
 |(n,v)::r,m,h=>by
  unfold bindC;rw[bindC_out λw hw=>h w (ay _ hw)]
  split
  ·rfl
  ·have:x≠n:=by rintro rfl;exact h v au
   simp[this]
theorem bindL_get{kindOf:Str->Option eV}{x:Str}{v:ad}:∀{P:List Str}{vs:List ad}{i:Nat}{m:Str->Option ad},P.Nodup->P[i]?=some x->vs[i]?=some v->kindOf x=some .local ->
  bindL kindOf (P.zip vs) m x=some v
 |[],_,_,_,_,h,_,_=>by simp at h
 |_::_,[],_,_,_,_,h,_=>by simp at h
 |p::P,w::vs,0,m,nd,h1,h2,j=>by
  simp at h1 h2;subst h1;subst h2;show bindL kindOf ((p,w)::P.zip vs) m p=_;unfold bindL;rw[bZe λv B=>(cA.mp nd).1 (fG B).1,if_pos j];simp
 |p::P,w::vs,i+1,m,nd,h1,h2,j=>by
  show bindL kindOf ((p,w)::P.zip vs) m x=_;unfold bindL;exact bindL_get (i:=i) (cA.mp nd).2 (by simpa using h1) (by simpa using h2) j
theorem bZf{kindOf:Str->Option eV}{x:Str}{v:ad}:∀{P:List Str}{vs:List ad}{i:Nat}{m:Str->Option ad},P.Nodup->P[i]?=some x->vs[i]?=some v->kindOf x≠some .local ->
  bindC kindOf (P.zip vs) m x=some v
 |[],_,_,_,_,h,_,_=>by simp at h
 |_::_,[],_,_,_,_,h,_=>by simp at h
 |p::P,w::vs,0,m,nd,h1,h2,j=>by
  simp at h1 h2;subst h1;subst h2;show bindC kindOf ((p,w)::P.zip vs) m p=_;unfold bindC;rw[bindC_out λv B=>(cA.mp nd).1 (fG B).1,if_neg j];simp
 |p::P,w::vs,i+1,m,nd,h1,h2,j=>by
  show bindC kindOf ((p,w)::P.zip vs) m x=_;unfold bindC;exact bZf (i:=i) (cA.mp nd).2 (by simpa using h1) (by simpa using h2) j
def start(N:List Str)(vs:List V):St:=vs.map some++g8 (N.length-vs.length) none
def cxOf(CX:CXT)(P:aE)(w:aQ)(K:ar)(mg:Str->Option ad)(base:aX)(N:List Str)(qual:Str)(scope:Scope)(f:Addr)(cd:ad)(A:aW)(outer:List Env)(s:ah)(H:Hp)(E:XK):Cx where
 prog:=P
 w:=w
 K:=K
 mg:=mg
 base:=base
 A:=A.deeper (g9 qual scope s.heap.objs.size f cd)
 N:=N
 s₀:=s
 H₀:=H
 env:=g9 qual scope s.heap.objs.size f cd
 outer:=outer
 stack:=g9 qual scope s.heap.objs.size f cd::outer
 ex:=[]
 calm:=true
 fn:=λ_=>true
 pn:=[]
 xe:=λe s'=>aF (aB P w) (A.deeper (g9 qual scope s.heap.objs.size f cd)) (leaving (g9 qual scope s.heap.objs.size f cd) e) (λ_ s''=>CX outer H s E e s'') (λe' s''=>CX outer H s E e' s'') s'
theorem bJ2{sc:Scope}{n:Nat}{x:Str}(h:sc.names.lookup x=some .cell):∃c,(fu n sc.names []).lookup x=some c:=by
 have q:=i8 sc.names n [] (.inl h);exact dD.mp q
theorem cQr{CX:CXT}{P:aE}{w:aQ}{K:ar}{mg:Str->Option ad}{base:aX}{N ps:List Str}{qual:Str}{scope:Scope}{f:Addr}{cd:ad}{A:aW}{outer:List Env}{s s1:ah}{H:Hp}{E:XK}{us:List ad}{vs:List V}
  (S:FnScope N ps scope) (hd:A.handled=none) (e0:Env0 P w K mg base A outer s H) (hl:vs.length=ps.length) (r:Vals vs us)
  (x:InCallC s s.heap.objs.size (bindL (g9 qual scope s.heap.objs.size f cd).kindOf (ps.zip us) λ_=>none) (fu (s.heap.objs.size+1) scope.names []) (bindC (g9 qual scope s.heap.objs.size f cd).kindOf (ps.zip us) λ_=>none) s1) :
  Inv (cxOf CX P w K mg base N qual scope f cd A outer s H E) [] (start N vs) H s1:=by
 have Z:ps.length<=N.length:=by have:=congrArg iu S.pre;rw[a6] at this;omega
 obtain⟨h1,tk,rfl,O⟩:=x.done;have j:∀b:Addr,b∉(cxOf CX P w K mg base N qual scope f cd A outer s H E).ex:=λb z=>absurd (show b∈([]:List Addr) from z) (by simp)
 refine⟨⟨e0.mod,S.kind,rfl,rfl,Nat.le_refl _,λy z c h1 h2=>?_,λy B=>?_,λy c _ h=>?_,λ_=>hd,Around.frames_deeper e0.frames,e0.gd,.inr ⟨rfl,rfl⟩,λb z=>absurd z (j b),e0.bs,e0.bsz,λb _ _=>j b,λb z=>absurd z (j b),e0.funs,e0.frf⟩,
  rfl,e0.bare,Un.kept O,⟨_,x.toInCall.ns,λi y v h1 h2 h3=>?_⟩,λy c h=>⟨_,x.cell y c h⟩,e0.hok.fresh (Nat.le_refl _),λy c h=>?_,λp J=>absurd (show p∈([]:List (Addr×Obj)) from J) (by simp),e0.hok.kept O,?_⟩
 ·exact name_of_addr x.apart (dO h1) (dO h2)
 ·have B:scope.names.lookup y=some .cell\/scope.names.lookup y=some .free:=B;rcases B with B|B
  ·exact bJ2 B
  ·exact absurd rfl (S.nofree _ (dO B))
 ·exact Nat.le_of_lt (x.above y c (dO h))
 ·have hi:i<vs.length:=by
   unfold start at h2
   by_cases hi:i<vs.length
   ·exact hi
   ·rw[bR (by simpa using hi)] at h2
    rw[List.getElem?_replicate] at h2
    split at h2 <;> cases h2
  have ha:vs[i]?=some v:=by
   unfold start at h2;rw[cU (by simpa using hi),aK] at h2
   cases e:vs[i]? with
   |none=>rw[e] at h2;cases h2
   |some a=>rw[e] at h2;cases h2;rfl
  obtain⟨u,L,Y⟩:=r.get ha;have J:ps[i]?=some y:=by
   rw[<- S.pre,iC (by omega)];exact h1
  have D:ps.Nodup:=by rw[<- S.pre];exact S.nd.sublist (dG _ _)
  refine⟨u,Y,?_⟩;rcases S.par y (ao J) with k|k
  ·exact .inl ⟨k,bindL_get D J L k⟩
  ·obtain⟨c,e⟩:=bJ2 (n:=s.heap.objs.size+1) k;refine .inr ⟨.inl k,c,e,?_⟩;have q:=x.cell y c e;rw[bZf D J L (by show scope.names.lookup y≠_;rw[k];decide)] at q
   exact q
 ·exact e0.hok.fresh (Nat.le_of_lt (x.above y c (dO h)))
 ·unfold start;show _=N.length;rw[aG,ak,List.length_replicate];omega
theorem eZ0{CX:CXT}{P:aE}{w:aQ}{K:ar}{mg:Str->Option ad}{base:aX}{k:Nat}{f:Addr}{name qual:Str}{params:Arguments}{body:List Stmt}{scope:Scope}{dV kV doc pm cdv ct oc:ad}{an od:Option Addr}
  {osl:Array (Option ad)}{N ps:List Str}{sp:Sp}(lk:K.lookup f=some ⟨oc,od,.func (ej name qual params body scope dV kV doc pm an cdv ct),osl⟩) (hcd:fT K cdv qual=true) (S:FnScope N ps scope)
  (len:∀vs H Q E,sp vs H Q E->vs.length=ps.length)
  (hbody:∀ (A:aW) (outer:List Env) (s:ah) (H:Hp) (vs:List V) (Q:VK) (E:XK),Room k (A.deeper (g9 qual scope s.heap.objs.size f cdv))->sp vs H Q E ->
   ∃t,PSs (cxOf CX P w K mg base N qual scope f cdv A outer s H E) body t/\t {nx:=λ_ H'=>Q .non H',rt:=Q} (start N vs) H) :
  FnOk P w K mg base CX (k+1) f (ej name qual params body scope dV kV doc pm an cdv ct) ps sp:=by
 refine⟨len,λA outer s H args us vs Q E O D hb r B=>?_⟩;have hl:=len _ _ _ _ B;have Y:K.In s.heap:=D.mod.kin.keeps λb o e=>(D.bs b o e).1;have lim:s.heap.NoLimit:=D.mod.nolimit.keeps λb o e=>(D.bs b o e).1;have j:∀y∈ps.zip us,scope.names.lookup y.1=some .local\/(scope.names.lookup y.1=some .cell/\((fu (s.heap.objs.size+1) scope.names []).lookup y.1).isSome=true):=λ⟨n,v⟩ Z=>by
  rcases S.par n (fG Z).1 with q|q
  ·exact .inl q
  ·exact .inr ⟨q,i8 _ _ _ (.inl q)⟩
 refine codeAny_call_function O.depth (Y _ _ lk) rfl S.co S.gen rfl (PySem.W.codeRec_of Y hcd) (hb _ _ _ _ ?_);refine wpAny_newFunctionEnv_cells S.kind j λenv he s1 x=>?_;subst he;refine⟨lim.keeps x.toInCall.keep,codeAny_func ?_⟩;obtain⟨t,ht,hq⟩:=hbody A outer s H vs Q E (O.deeper _) B;have I:Inv (cxOf CX P w K mg base N qual scope f cdv A outer s H E) [] (start N vs) H s1:=cQr S O.hd D hl r x;refine cj (ht [] s1 (start N vs) H _ I hq) (λfl s' hs=>?_) λe s' hs=>hs;have fin:∀{σ':St}{H':Hp}{v:V}{u:ad},Inv (cxOf CX P w K mg base N qual scope f cdv A outer s H E) [] σ' H' s'->RelV v u->Q v H'->CE outer P w H s Q u s' :=
  λ{σ' H' v u} J L q=>⟨v,H',J.os,J.bare,J.base,J.hok,L,q⟩
 cases fl with
 |ret u =>
  obtain⟨v,σ',H',J,L,q⟩:=hs;exact fin J L q
 |next =>
  obtain⟨σ',H',J,q⟩:=hs;exact fin (v:=V.non) (u:=cL) J rfl q
 |brk =>
  obtain⟨_,_,_,q⟩:=hs;exact db q
 |cont =>
  obtain⟨_,_,_,q⟩:=hs;exact db q
section
variable{X:Cx}{x:Str}{p pos:Pos}{e:Expr}{es:List Expr}{t:TA}{id T:String}{r:List V->Hp->VK->Prop}
def tCB(r:List V->Hp->VK->Prop)(t:TA):TE:=fun σ H Q=>t σ H λvs H1=>r vs H1 Q
theorem bQj(hc:CallR X (.builtin id) r)(hg:Gl X x)(hm:X.mg x=none)(hv:cf x=some (.builtin id))(ha:PA X (e::es) t)(hn:x ≠ "__name__":=by decide)(hdb:(x==("__debug__":Str))=false:=by decide)
  (he:az (e::es) X.env=(false,eval e X.env)::az es X.env:=by rfl) (hpl:(cq pos (az es X.env)).any (·.1)=false:=by rfl):PE X (.Call (.Name x p) (e::es) [] pos) (tCB r t):=by
 intro pins s σ H Q I h;refine eO (ld_blt I hg hm hv ?_ hn hdb);exact PyProof.Rows.callWith_builtin1 (thn (ha pos pins s σ H _ I h) λus s1 ⟨vs,H1,D,j,B⟩=>hc pins s1 σ H1 vs us Q D j B) he hpl
theorem cQs(hc:CallR X (.type T) r)(hg:Gl X x)(hm:X.mg x=none)(hv:cf x=some (.type T))(ha:PA X (e::es) t)(hn:x ≠ "__name__":=by decide)(hdb:(x==("__debug__":Str))=false:=by decide)
  (he:az (e::es) X.env=(false,eval e X.env)::az es X.env:=by rfl) (hpl:(cq pos (az es X.env)).any (·.1)=false:=by rfl):PE X (.Call (.Name x p) (e::es) [] pos) (tCB r t):=by
 intro pins s σ H Q I h;refine eO (ld_blt I hg hm hv ?_ hn hdb);exact dQ (thn (ha pos pins s σ H _ I h) λus s1 ⟨vs,H1,D,j,B⟩=>hc pins s1 σ H1 vs us Q D j B) he hpl
end
end L2
namespace HT
open PySem PyProof.Rows
section
variable{prog:aE}{w:aQ}{A:aW}{E:ad->ah->Prop}{s:ah}
theorem cat_tup{t b:Addr}{vs ws:List ad}{Q:ad->ah->Prop}(ht:IsTup s.heap t vs.toArray)(hb:IsTup s.heap b ws.toArray)(hv:vs≠[])
  (h1:ws=[]->Q (.ref t) s) (h2:ws≠[]->Q (.ref s.heap.objs.size) {s with heap:=s.heap.push {cls:=.type "tuple",data:=.seq (vs++ws).toArray}})
  (hsz:vs.length+ws.length<=sizeLine):aF (aB prog w) A (ef .Add (.ref t) (.ref b)) Q E s:=by
 obtain⟨⟨cls,dd,data,sl⟩,L,O,n,hd⟩:=id ht;obtain⟨⟨Y,J,data2,B⟩,j,D,N,hd2⟩:=id hb;simp only at O hd D hd2;subst O hd D hd2;have e:vs.toArray++ws.toArray=(vs++ws).toArray:=by simp
 by_cases hw:ws=[]
 ·exact i9 ⟨_,L,rfl⟩ ⟨_,j,rfl⟩ iI seq_tuple_add fU fM (fE _ _)
   (tuple_addW1 t b vs.toArray ws.toArray n N dd J sl B (by simpa using hv) (by simp[hw])) ⟨L,j,h1 hw⟩
 ·refine i9 ⟨_,L,rfl⟩ ⟨_,j,rfl⟩ iI seq_tuple_add fU fM (fE _ _)
   (tuple_addW2 t b vs.toArray ws.toArray n N dd J sl B (by simpa using hv) (by simpa using hw) (by rw[av,av];exact hsz)) ⟨L,j,?_⟩
  rw[e];exact h2 hw
def sIx(n d:Nat):Option Int->Nat
 |none=>d
 |some v=>if v<0 then (v+(n:Int)).toNat else min v.toNat n
theorem sIx_nat(n d k:Nat):sIx n d (some (k:Int))=min k n:=by
 show(if (k:Int)<0 then ((k:Int)+(n:Int)).toNat else min (k:Int).toNat n)=min k n
 rw[if_neg (by omega),bN]
theorem sIx_le(n d:Nat)(hd:d<=n)(o:Option Int):sIx n d o<=n:=by
 cases o with
 |none=>exact hd
 |some v =>
  show(if v<0 then (v+(n:Int)).toNat else min v.toNat n)<=n
  by_cases j:v<0
  ·rw[if_pos j];omega
  ·rw[if_neg j];exact Nat.min_le_right _ _
theorem cQt(v:Int)(n d:Nat):(if v<0 then max (v+(n:Int)) 0 else min v (n:Int))=((sIx n d (some v):Nat):Int):=by
 show(if v<0 then max (v+(n:Int)) 0 else min v (n:Int))=(((if v<0 then (v+(n:Int)).toNat else min v.toNat n):Nat):Int)
 by_cases j:v<0
 ·simp only[if_pos j];omega
 ·simp only[if_neg j];omega
theorem bJy(lo hi:Option Int)(n:Nat):fA lo hi 1 (n:Int)=(((sIx n 0 lo:Nat):Int),((sIx n n hi:Nat):Int)):=by
 have h1:¬ ((1:Int)<0):=by omega
 unfold fA;simp only[h1,if_false];refine Prod.ext ?_ ?_
 ·cases lo with
  |none=>rfl
  |some v=>exact cQt v n 0
 ·cases hi with
  |none=>rfl
  |some v=>exact cQt v n n
theorem bJz(i j:Nat):d5 (i:Int) (j:Int) 1=j-i:=by
 unfold d5;have h1:(1:Int)>0:=by omega
 simp only[h1,if_true,Int.ediv_one]
 split <;> omega
theorem bQ6{v:ad}{o:Option Int}{Q:Option Int->ah->Prop}(p:IsPart v o)(h:Q o s):aF (aB prog w) A (bU.Slice.slicePartIndex v) Q E s:=by
 cases p with
 |none=>exact slicePart_none h
 |int i t=>exact slicePart_int h
theorem sliceApplied_gen{sl:Addr}{vl vu:ad}{lo hi:Option Int}{n:Nat}{Q:Int×Int×Nat->ah->Prop}(hs:s.heap.IsSliceOf sl vl vu .none)(pl:IsPart vl lo)(pu:IsPart vu hi)
  (h:Q (((sIx n 0 lo:Nat):Int),1,sIx n n hi-sIx n 0 lo) s):aF (aB prog w) A (ff (.ref sl) (pure (n:Int))) Q E s:=by
 obtain⟨os,j,D,B⟩:=id hs;unfold ff bU.Slice.sliceFields;refine aa (aa (bW j B (x:=vl) rfl (aa (bW j B (x:=vu) rfl (aa (bW j B (x:=.none) rfl (ae ?_)))))));refine aa (slicePart_none ?_);show aF _ _ (if ((1:Int)==0)=true then _ else _) _ _ s
 rw[if_neg (by decide)]
 refine aa (bQ6 pl (aa (bQ6 pu (aa (ae ?_)))));show aF _ _ (match fA lo hi 1 (n:Int) with|(lo,hi)=>pure (lo,(1:Int),d5 lo hi 1)) _ _ s
 rw[bJy lo hi n];show aF _ _ (pure (((sIx n 0 lo:Nat):Int),(1:Int),d5 ((sIx n 0 lo:Nat):Int) ((sIx n n hi:Nat):Int) 1)) _ _ s;rw[bJz];exact ae h
theorem cJ7(xs:Array ad)(i k:Nat):((bQ k).filterMap λ(m:Nat)=>xs[((i:Int)+(m:Int)*1).toNat]?).toArray=((xs.toList.drop i).take k).toArray:=by
 have e:(λ(m:Nat)=>xs[((i:Int)+(m:Int)*1).toNat]?)=λm=>xs[i+m]?:=by
  funext m
  have:((i:Int)+(m:Int)*1).toNat=i+m:=by omega
  rw[this]
 rw[e]
 have:=pick_run xs i k
 rw[List.filterMap_map] at this;have e2:((λx=>xs[x]?)∘λx=>i+x)=λm=>xs[i+m]?:=rfl;rw[e2] at this;rw[this]
theorem getItem_tuple_cut{t sl:Addr}{items:Array ad}{vl vu:ad}{lo hi:Option Int}{Q:ad->ah->Prop}(ht:IsTup s.heap t items)(hs:s.heap.IsSliceOf sl vl vu .none)(pl:IsPart vl lo)(pu:IsPart vu hi)
  (hw:¬ (sIx items.size 0 lo=0/\sIx items.size items.size hi=items.size))
  (h:Q (.ref s.heap.objs.size) {s with heap:=s.heap.push {cls:=.type "tuple",data:=.seq ((items.toList.drop (sIx items.size 0 lo)).take (sIx items.size items.size hi-sIx items.size 0 lo)).toArray}})
  (hsz:items.size<=sizeLine):aF (aB prog w) A (gA (.ref t) (.ref sl)) Q E s:=by
 have j:sizeOk (.seq ((items.toList.drop (sIx items.size 0 lo)).take (sIx items.size items.size hi-sIx items.size 0 lo)).toArray):=by
  show((items.toList.drop (sIx items.size 0 lo)).take (sIx items.size items.size hi-sIx items.size 0 lo)).toArray.size<=sizeLine;rw[av,a6,bE,aH];omega
 have Z:sIx items.size items.size hi<=items.size:=sIx_le _ _ (Nat.le_refl _) hi;obtain⟨os,B,J,N⟩:=id hs;have L:s.TypeIs (.ref sl) "slice":=⟨os,B,J⟩;unfold gA
 try with_reducible refine bb ?_
 first|refine aa (ae ?_)|skip
 refine aa (wpAny_sequenceKey ht.typeIs (by decide) ?_)
 refine aa (cK (name:=Str.ofString "__getitem__") ht.typeIs cb
  (cD cb ht.typeIs entry_tuple_getitem ?_ (args_tuple_getitem _ _)))
 show aF _ _ (hJ (.ref t)>>=_) _ _ s;refine aa (tupleItemsOf_ ht ?_);refine aa (fw L ?_);rw[if_pos (by decide)]
 refine aa (sliceApplied_gen hs pl pu ?_);have D:¬ ((((sIx items.size 0 lo:Nat):Int)==0&&(1:Int)==1&&(sIx items.size items.size hi-sIx items.size 0 lo)==items.size)=true):=by
  intro q;rw[bL,bL] at q;have Y:((sIx items.size 0 lo:Nat):Int)=0:=gq q.1.1;have O:sIx items.size items.size hi-sIx items.size 0 lo=items.size:=gq q.2;exact hw ⟨by omega,by omega⟩
 show aF _ _ (if (((sIx items.size 0 lo:Nat):Int)==0&&(1:Int)==1&&(sIx items.size items.size hi-sIx items.size 0 lo)==items.size)=true then _ else _) _ _ s
 rw[if_neg D,cJ7]
 first
  |exact aa (m:=ca _) (bd (ae ⟨_,rfl,ae h⟩) j)
  |exact aa (m:=ca _) (bd (aa (ae (ae ⟨_,rfl,ae h⟩))) j)
  |exact aa (aa (m:=ca _) (bd (ae (ae ⟨_,rfl,ae h⟩)) j))
  |exact aa (aa (m:=ca _) (bd (ae ⟨_,rfl,ae h⟩) j))
end
end HT
namespace L2
open PySem PySem.Spec PyProof.Rows
abbrev TO:=St->Hp->(Option Int->Hp->Prop)->Prop
def PO(X:Cx)(e:Option Expr)(t:TO):Prop :=
 ∀(pins:List (Addr×Obj)) (s:ah) (σ:St) (H:Hp) (Q:Option Int->Hp->Prop),Inv X pins σ H s->t σ H Q ->
  aF (aB X.prog X.w) X.A (evalPart e X.env) (λu s'=>∃o H',Inv X pins σ H' s'/\IsPart u o/\Q o H') X.xe s
def dZj:TO:=λ_ H Q=>Q none H
def fQ3(t:TE):TO:=fun σ H Q=>t σ H λx H1=>∃i,x=.int i/\Q (some i) H1
theorem bQ7{ns:List Int}:∀{us:List ad},Vals (ns.map V.int) us->gC us ns:=by
 induction ns with
 |nil=>intro us r;rw[eP] at r;cases r;exact .nil
 |cons n ns D =>
  intro us r;rw[bg] at r;cases r with
  |cons B j =>
   obtain⟨t,e⟩:=B;subst e;exact .cons n t (D j)
section
variable{X:Cx}{e:Expr}{te:TE}{lo hi:Option Expr}{tl th:TO}{pos p2:Pos}
theorem dZk:PO X none dZj:=by
 intro pins s σ H Q I h;rw[evalPart_none];exact ae ⟨none,H,I,.none,h⟩
theorem dZl(h:PE X e te):PO X (some e) (fQ3 te):=by
 intro pins s σ H Q I hw;rw[evalPart_some];refine thn (h pins s σ H _ I hw) λu s1 ⟨x,H1,D,j,B⟩=>?_;obtain⟨i,rfl,q⟩:=B;obtain⟨t,rfl⟩:=j;exact⟨some i,H1,D,.int i t,q⟩
def SlR(X:Cx)(r:V->Option Int->Option Int->Hp->VK->Prop):Prop :=
 ∀(pins:List (Addr×Obj)) (s:ah) (σ:St) (H:Hp) (x:V) (v vl vu:ad) (lo hi:Option Int) (sl:Addr) (Q:VK),Inv X pins σ H s->RelV x v->s.heap.IsSliceOf sl vl vu .none->IsPart vl lo->IsPart vu hi->r x lo hi H Q ->
  ∃T id,ja (.type T) "__getitem__"=pure (some (.builtin id))/\s.TypeIs v T/\aF (aB X.prog X.w) X.A (gA v (.ref sl)) (EP X pins σ Q) X.xe s
theorem SlR.or{r r':V->Option Int->Option Int->Hp->VK->Prop}(h:SlR X r)(h':SlR X r'):SlR X (λx lo hi H Q=>r x lo hi H Q\/r' x lo hi H Q):=by
 intro pins s σ H x v B j lo hi sl Q I D hs pl pu q;rcases q with q|q
 ·exact h pins s σ H x v B j lo hi sl Q I D hs pl pu q
 ·exact h' pins s σ H x v B j lo hi sl Q I D hs pl pu q
def tSl(r:V->Option Int->Option Int->Hp->VK->Prop)(te:TE)(tl th:TO):TE:=fun σ H Q=>te σ H λx H1=>tl σ H1 λl H2=>th σ H2 λu H3=>r x l u H3 Q
theorem cJ8{r:V->Option Int->Option Int->Hp->VK->Prop}(hr:SlR X r)(he:PE X e te)(hl:PO X lo tl)(hu:PO X hi th):PE X (.Subscript e (.Slice lo hi none p2) pos) (tSl r te tl th):=by
 intro pins s σ H Q I h;refine Subscript_ (thn (he pins s σ H _ I h) λv s1 ⟨x,H1,I1,J,O⟩=>?_);refine wpAny_Slice (thn (hl pins s1 σ H1 _ I1 O) λB s2 ⟨l,H2,I2,pl,N⟩=>thn (hu pins s2 σ H2 _ I2 N) λj s3 ⟨u,D,I3,pu,L⟩=>?_);rw[evalPart_none];refine ae ?_;have I4:Inv X pins σ D {s3 with heap:=s3.heap.push {cls:=.type "slice",data:=.fields #[B,j,.none]}}:=I3.kept (t':=s3.toks) λb ob q=>af _ q
 obtain⟨T,id,hT,Y,Z⟩:=hr pins {s3 with heap:=s3.heap.push {cls:=.type "slice",data:=.fields #[B,j,.none]}} σ D x v B j l u s3.heap.objs.size Q I4 J (aX.IsSliceOf.new ..) pl pu L;show aF (aB X.prog X.w) X.A (subscriptTail e (.Slice lo hi none p2) v (.ref s3.heap.objs.size)) (EP X pins σ Q) X.xe {s3 with heap:=s3.heap.push {cls:=.type "slice",data:=.fields #[B,j,.none]}}
 exact tail_any (ops:=[.ref s3.heap.objs.size,v]) Y hT Z (by with_unfolding_all rfl)
def cutV(xs:List V)(lo hi:Option Int):List V:=(xs.drop (HT.sIx xs.length 0 lo)).take (HT.sIx xs.length xs.length hi-HT.sIx xs.length 0 lo)
theorem aJj(xs:List V)(lo hi:Option Int):(cutV xs lo hi).length<=xs.length:=by
 unfold cutV;rw[a6,bE];omega
def rSlT(K:ar):V->Option Int->Option Int->Hp->VK->Prop:=λx lo hi H Q=>∃a xs,x=.ref a/\SqT K H a xs /\
 ¬ (HT.sIx xs.length 0 lo=0/\HT.sIx xs.length xs.length hi=xs.length)/\∀p,H p=none->Q (.ref p) (upd H p (.tup (cutV xs lo hi)))
theorem eZ1:SlR X (rSlT X.K):=by
 intro pins s σ H x v L J lo hi sl Q I rx hs pl pu h;obtain⟨a,xs,rfl,D,hw,q⟩:=h;cases rx;obtain⟨its,r,B,j⟩:=I.tuple D;have hlen:its.toArray.size=xs.length:=by rw[av];exact r.length.symm
 refine⟨"tuple",_,cb.lookup,B.typeIs,?_⟩;refine HT.getItem_tuple_cut B hs pl pu (by rw[hlen];exact hw) ?_ (by rw[hlen];exact j)
 rw[hlen];refine⟨.ref s.heap.objs.size,_,I.laid (t':=s.toks) (o:=.tup (cutV xs lo hi)) (λb N q=>af _ q) (Nat.le_refl _) ?_,rfl,q _ (I.hok.fresh (Nat.le_refl _))⟩;exact⟨Nat.le_trans (aJj xs lo hi) j,_,(r.drop (HT.sIx xs.length 0 lo)).take (HT.sIx xs.length xs.length hi-HT.sIx xs.length 0 lo),IsTup.new _ _,bJ0⟩
def dZm(K:ar):R2:=λx y H Q=>∃a b xs ys,x=.ref a/\y=.ref b/\SqT K H a xs/\SqT K H b ys/\xs≠[]/\xs.length+ys.length<=sizeLine /\
 (ys=[]->Q (.ref a) H)/\(ys≠[]->∀p,H p=none->Q (.ref p) (upd H p (.tup (xs++ys))))
theorem Vals.nil_iff{xs:List V}{us:List ad}(r:Vals xs us):us=[]↔xs=[]:=by
 cases r with
 |nil=>simp
 |cons _ _=>simp
theorem dZn:OpR X (ef .Add) (dZm X.K):=by
 intro pins s σ H x y v u Q I rx ry h;obtain⟨a,b,xs,ys,rfl,rfl,ha,Z,Y,J,N,L⟩:=h;cases rx;cases ry;obtain⟨its,B,O,_⟩:=I.tuple ha;obtain⟨D,j,p2,_⟩:=I.tuple Z;refine HT.cat_tup O p2 (λz=>Y (B.nil_iff.mp z)) (λz=>⟨.ref a,H,I,rfl,N (j.nil_iff.mp z)⟩) (λz=>?_) (by rw[<- B.length,<- j.length];exact J)
 refine⟨.ref s.heap.objs.size,_,I.laid (t':=s.toks) (o:=.tup (xs++ys)) (λb ob q=>af _ q) (Nat.le_refl _) ?_,rfl,L (λw=>z (j.nil_iff.mpr w)) _ (I.hok.fresh (Nat.le_refl _))⟩;exact⟨by rw[aG];exact J,_,B.append j,IsTup.new _ _,bJ0⟩
end
def ixN(n:Nat)(i:Int):Option Nat:=if 0<=i then (if i<n then some i.toNat else none) else if -(n:Int)<=i then some (i+n).toNat else none
def atI{α:Type}(xs:List α)(i:Int):Option α:=(ixN xs.length i).bind λj=>xs[j]?
theorem bX7{n:Nat}{i:Int}{j:Nat}(h:ixN n i=some j):seqIndex? i n=some j/\j<n/\-(n:Int)<=i/\i<n:=by
 unfold ixN at h
 by_cases h0:0<=i
 ·rw[if_pos h0] at h
  by_cases h1:i<n
  ·rw[if_pos h1] at h;have e:i.toNat=j:=aR h;exact⟨by rw[seqIndex_of h0 h1,e],by omega,by omega,h1⟩
  ·rw[if_neg h1] at h;cases h
 ·rw[if_neg h0] at h
  by_cases h1:-(n:Int)<=i
  ·rw[if_pos h1] at h;have e:(i+n).toNat=j:=aR h;exact⟨by rw[seqIndex_neg (by omega) h1,e],by omega,h1,by omega⟩
  ·rw[if_neg h1] at h;cases h
theorem bX8{α:Type}{xs:List α}{i:Int}{v:α}(h:atI xs i=some v):∃j,seqIndex? i xs.length=some j/\xs[j]?=some v/\j<xs.length/\-(xs.length:Int)<=i/\i<xs.length:=by
 unfold atI at h;cases e:ixN xs.length i with
 |none=>rw[e] at h;cases h
 |some j =>
  rw[e] at h;obtain⟨h1,h2,D,B⟩:=bX7 e;exact⟨j,h1,h,h2,D,B⟩
theorem aZw{α:Type}{xs:List α}{j:Nat}{v:α}(h:xs[j]?=some v):atI xs (j:Int)=some v:=by
 have B:j<xs.length:=(aD.mp h).1;have e:ixN xs.length (j:Int)=some j:=by
  unfold ixN;rw[if_pos (by omega),if_pos (by omega)];simp
 unfold atI;rw[e];exact h
def PlainIx(b:Expr):Prop:=∀o i,subscripted b false o i=operate [o,i] (gA o i)
def IxR(X:Cx)(r:R2):Prop :=
 ∀(value slice:Expr) (pins:List (Addr×Obj)) (s:ah) (σ:St) (H:Hp) (x y:V) (v u:ad) (Q:VK),Inv X pins σ H s->RelV x v->RelV y u->r x y H Q ->
  subscripted slice false v u=operate [v,u] (gA v u)->aF (aB X.prog X.w) X.A (subscriptTail value slice v u) (EP X pins σ Q) X.xe s
def MtR(X:Cx)(id:String)(r:V->List V->Hp->VK->Prop):Prop :=
 ∀(pins:List (Addr×Obj)) (s:ah) (σ:St) (H:Hp) (x:V) (xs:List V) (v:ad) (us:List ad) (Q:VK),Inv X pins σ H s->RelV x v->Vals xs us->r x xs H Q ->
  aF (aB X.prog X.w) X.A (call (.builtin id) (v::us)) (EP X pins σ Q) X.xe s
section
variable{X:Cx}{a b:Expr}{ta tb:TE}{pos:Pos}
theorem IxR.or{r r':R2}(h:IxR X r)(h':IxR X r'):IxR X (λx y H Q=>r x y H Q\/r' x y H Q):=by
 intro value slice pins s σ H x y v u Q I B j q hs;rcases q with q|q
 ·exact h value slice pins s σ H x y v u Q I B j q hs
 ·exact h' value slice pins s σ H x y v u Q I B j q hs
theorem pe_ix{r:R2}(hr:IxR X r)(ha:PE X a ta)(hb:PE X b tb)(hs:PlainIx b):PE X (.Subscript a b pos) (tOp r ta tb):=by
 intro pins s σ H Q I h;exact Subscript_ (binT ha hb I h λv u s2 x y H2 D B j q=>hr a b pins s2 σ H2 x y v u Q D B j q (hs _ _))
def rIxL(K:ar):R2:=λx y H Q=>∃p xs i v,x=.ref p/\y=.int i/\SqL K H p xs/\atI xs i=some v/\Q v H
def rIxT(K:ar):R2:=λx y H Q=>∃p xs i v,x=.ref p/\y=.int i/\SqT K H p xs/\atI xs i=some v/\Q v H
def rIxS:R2:=λx y H Q=>∃z i c,x=.str z/\y=.int i/\z.length<=sizeLine/\atI z.cps.toList i=some c/\Q (.str ⟨#[c]⟩) H
theorem ix_list:IxR X (rIxL X.K):=by
 intro value slice pins s σ H x y v u Q I rx L h hs;obtain⟨p,xs,i,z,rfl,rfl,N,he,q⟩:=h;cases rx;obtain⟨t,rfl⟩:=L;obtain⟨its,r,pl,Z⟩:=I.list N;obtain⟨j,h1,h2,h3,Y,O⟩:=bX8 he;obtain⟨w,J,B⟩:=r.get h2;have hl:=r.length;have hn:=aJi;have fin:EP X pins σ Q w s:=⟨z,H,I,B,q⟩
 by_cases h0:0<=i
 ·have D:i.toNat=j:=by
   rw[seqIndex_of h0 O] at h1;exact aR h1
  exact item_listR pl.isList h0 (by omega) (by rw[D];simpa using J) fin hs
 ·have D:(i+(its.toArray.size:Int)).toNat=j:=by
   rw[seqIndex_neg (by omega) Y] at h1
   rw[av,<- hl];exact aR h1
  exact subscriptTail_builtinR (x:=w) pl.isList.typeIs slot_list_getitem.lookup
   (wpAny_getItem_list_neg (Q:=λr s'=>r=w/\EP X pins σ Q r s') pl.isList (by omega) (by rw[av] <;> omega) (by omega) (by rw[D];simpa using J) ⟨rfl,fin⟩) hs
theorem ix_tup:IxR X (rIxT X.K):=by
 intro value slice pins s σ H x y v u Q I rx D h hs;obtain⟨p,xs,i,z,rfl,rfl,J,he,q⟩:=h;cases rx;obtain⟨t,rfl⟩:=D;obtain⟨its,r,pl,N⟩:=I.tuple J;obtain⟨j,h1,h2,Z,Y,O⟩:=bX8 he;obtain⟨w,L,B⟩:=r.get h2;have hl:=r.length;have hn:=aJi;have fin:EP X pins σ Q w s:=⟨z,H,I,B,q⟩;exact subscriptTail_builtinR (x:=w) pl.typeIs slot_tuple_getitem.lookup
  (getItem_tuple (j:=j) (Q:=λr s'=>r=w/\EP X pins σ Q r s') pl (by omega) (by omega) (by rw[av,<- hl];exact h1) (by simpa using L) ⟨rfl,fin⟩) hs
theorem eZ2:IxR X rIxS:=by
 intro value slice pins s σ H x y v u Q I D B h hs;obtain⟨z,i,c,rfl,rfl,O,he,q⟩:=h;obtain⟨t,rfl⟩:=D;obtain⟨N,rfl⟩:=B;obtain⟨j,h1,h2,Y,L,J⟩:=bX8 he;have hl:z.cps.toList.length=z.length:=by simp[Str.length]
 rw[hl] at h1 L J;have hn:=aJi;exact tail_any (typeIs_str s z t) slot_str_getitem.lookup (getItem_str (c:=c) (by
  have e1:decide (i < -(2^63:Int))=false:=decide_eq_false (by omega)
  have e2:decide (i>=2^63)=false:=decide_eq_false (by omega)
  rw[e1,e2,Bool.or_false]) (by rw[h1];simpa using h2) ⟨.str ⟨#[c]⟩,H,I.tok _,⟨_,rfl⟩,q⟩) hs
def rIx(K:ar):R2:=λx y H Q=>rIxL K x y H Q\/rIxT K x y H Q\/rIxS x y H Q
theorem eZ3:IxR X (rIx X.K):=ix_list.or (ix_tup.or eZ2)
theorem cQ0(its:List ad)(n j:Nat)(u:ad):bD (·.setIfInBounds j u) {cls:=.type "list",data:=.seq its.toArray n}={cls:=.type "list",data:=.seq (its.set j u).toArray n}:=by
 simp[bD]
theorem Inv.lst{pins:List (Addr×Obj)}{σ:St}{H:Hp}{s:ah}{p:Addr}{xs:List V}(I:Inv X pins σ H s)(h:H p=some (.lst xs)) :
  ∃(its:List ad) (n:Nat),Vals xs its/\s.heap.get? p=some {cls:=.type "list",data:=.seq its.toArray n}/\xs.length<=sizeLine:=by
 obtain⟨z,its,n,r,e⟩:=I.hok p _ h;exact⟨its,n,r,e,z⟩
theorem Inv.lstUpd{pins:List (Addr×Obj)}{σ:St}{H:Hp}{s:ah}{p:Addr}{xs ys:List V}{its its':List ad}{n n':Nat}{f:Obj->Obj}(I:Inv X pins σ H s)(h:H p=some (.lst xs))
  (ho:s.heap.get? p=some {cls:=.type "list",data:=.seq its.toArray n}) (hf:f {cls:=.type "list",data:=.seq its.toArray n}={cls:=.type "list",data:=.seq its'.toArray n'}) (r:Vals ys its') (hz:ys.length<=sizeLine) (t:Nat) :
  Inv X pins σ (upd H p (.lst ys)) {s with heap:=s.heap.update p f,toks:=t}:=by
 have e:(s.heap.update p f).get? p=some {cls:=.type "list",data:=.seq its'.toArray n'}:=by
  rw[cX f ho (by rw[hf] <;> rfl),hf]
 refine I.write (x:=p) (e:=p) (by rw[h];trivial) (.inl rfl) (λb u j q=>(bi _ _ (dA j)).trans q) ⟨_,e⟩ ?_
 exact⟨hz,its',n',r,e⟩
def fQ4:V->V->V->Hp->(Hp->Prop)->Prop:=λo i v H Q=>∃p xs k j,o=.ref p/\i=.int k/\H p=some (.lst xs)/\ixN xs.length k=some j/\Q (upd H p (.lst (xs.set j v)))
theorem cJ9:PSet X fQ4:=by
 intro pins s σ H o i v ov iv u Q I ro Z Y h;obtain⟨p,xs,k,j,rfl,rfl,J,hj,q⟩:=h;cases ro;obtain⟨t,rfl⟩:=Z;obtain⟨its,n,r,B,hz⟩:=I.lst J;obtain⟨h1,h2,N,L⟩:=bX7 hj;have hl:=r.length;have hn:=aJi;have O:Inv X pins σ (upd H p (.lst (xs.set j v))) {s with heap:=s.heap.update p (bD (·.setIfInBounds j u))} :=
  I.lstUpd J B (cQ0 its n j u) (r.set Y j) (by rw[List.length_set];exact hz) s.toks
 by_cases h0:0<=k
 ·have D:k.toNat=j:=by
   rw[seqIndex_of h0 L] at h1;exact aR h1
  exact PySem.W.ki_setAt B h0 (by omega) (by rw[av,<- hl];exact L) (by rw[D];exact⟨_,O,q⟩)
 ·have D:(k+(its.toArray.size:Int)).toNat=j:=by
   rw[seqIndex_neg (by omega) N] at h1
   rw[av,<- hl];exact aR h1
  exact PySem.W.ki_setBack B (by omega) (by rw[av,<- hl];exact N) (by omega) (by rw[D];exact⟨_,O,q⟩)
theorem aJ0(lo hi:Option Int)(n:Nat):(eH lo hi none n).1=((HT.sIx n 0 lo:Nat):Int)/\(eH lo hi none n).2.1=((HT.sIx n n hi:Nat):Int)/\(eH lo hi none n).2.2=1:=by
 refine⟨?_,?_,rfl⟩
 ·cases lo with
  |none=>simp[eH,HT.sIx]
  |some i =>
   simp only[eH,HT.sIx,iJ,show(1:Int)>0 by decide,if_true]
   by_cases h:i<0
   ·simp only[h,if_true] <;> omega
   ·simp only[h,if_false] <;> omega
 ·cases hi with
  |none=>simp[eH,HT.sIx]
  |some i =>
   simp only[eH,HT.sIx,iJ,show(1:Int)>0 by decide,if_true]
   by_cases h:i<0
   ·simp only[h,if_true] <;> omega
   ·simp only[h,if_false] <;> omega
theorem bQk(its:List ad)(lo hi:Option Int):slicePick its.toArray lo hi none=((its.drop (HT.sIx its.length 0 lo)).take (HT.sIx its.length its.length hi-HT.sIx its.length 0 lo)).toArray:=by
 obtain⟨h1,h2,j⟩:=aJ0 lo hi its.toArray.size;unfold slicePick;rw[h1,h2,j];simp only[sliceRange_one,pick_run,av] <;> rfl
def rSlL(K:ar):V->Option Int->Option Int->Hp->VK->Prop:=λx lo hi H Q=>∃a xs,x=.ref a/\SqL K H a xs/\∀p,H p=none->Q (.ref p) (upd H p (.lst (cutV xs lo hi)))
theorem dZo:SlR X (rSlL X.K):=by
 intro pins s σ H x v L J lo hi sl Q I rx hs pl pu h;obtain⟨a,xs,rfl,D,q⟩:=h;cases rx;obtain⟨its,r,j,B⟩:=I.list D;have hlen:=r.length;refine⟨"list",_,slot_list_getitem.lookup,j.isList.typeIs,?_⟩;refine wpAny_getItem_list_slice j.isList hs pl pu .none (by simp) ?_ (by rw[av] <;> omega)
 rw[bQk,<- hlen];refine⟨.ref s.heap.objs.size,_,I.laid (t':=s.toks) (o:=.lst (cutV xs lo hi)) (λb N q=>af _ q) (Nat.le_refl _) ?_,rfl,q _ (I.hok.fresh (Nat.le_refl _))⟩;exact⟨Nat.le_trans (aJj xs lo hi) B,_,0,(r.drop (HT.sIx xs.length 0 lo)).take (HT.sIx xs.length xs.length hi-HT.sIx xs.length 0 lo),aq _ rfl⟩
theorem CallR.or{f:ad}{r r':List V->Hp->VK->Prop}(h:CallR X f r)(h':CallR X f r'):CallR X f (λxs H Q=>r xs H Q\/r' xs H Q):=by
 intro pins s σ H xs us Q I rs q;rcases q with q|q
 ·exact h pins s σ H xs us Q I rs q
 ·exact h' pins s σ H xs us Q I rs q
theorem call_list_of:CallR X (.type "list") (λxs H Q=>∃p ys,xs=[.ref p]/\(SqL X.K H p ys\/SqT X.K H p ys)/\∀l,H l=none->Q (.ref l) (upd H l (.lst ys))):=by
 intro pins s σ H xs us Q I r h;obtain⟨p,ys,rfl,J,q⟩:=h;obtain⟨u,rfl,rx⟩:=aXb r;cases rx;have fin:∀(its:List ad),Vals ys its->ys.length<=sizeLine->∀(h':aX) (B:Nat),(∀b o',s.heap.get? b=some o'->h'.get? b=some o') ->
   h'.get? s.heap.objs.size=some {cls:=.type "list",dict:=none,data:=.seq its.toArray B,slots:=#[]}->EP X pins σ Q (.ref s.heap.objs.size) {s with heap:=h'}:=λits j D h' B kp e =>
  ⟨.ref s.heap.objs.size,_,I.laid (t':=s.toks) kp (Nat.le_refl _) (show ObjOk X.prog X.w _ h' _ (.lst ys) from⟨D,its,B,j,e⟩),rfl,q _ (I.hok.fresh (Nat.le_refl _))⟩
 rcases J with J|J
 ·obtain⟨its,j,pl,D⟩:=I.list J;have hlen:=j.length;obtain⟨o,L,N,n,hd⟩:=pl.isList;exact call_list_seq p (.inl rfl) L N hd (λh' B kp e=>fin its j D h' B kp e) (by simp only[av] <;> omega)
 ·obtain⟨its,j,pl,D⟩:=I.tuple J;have hlen:=j.length;obtain⟨o,L,N,n,hd⟩:=pl;exact call_list_seq p (.inr rfl) L N hd (λh' B kp e=>fin its j D h' B kp e) (by simp only[av] <;> omega)
theorem bQl:CallR X (.type "tuple") (λxs H Q=>∃p ys,xs=[.ref p]/\((SqL X.K H p ys/\∀l,H l=none->Q (.ref l) (upd H l (.tup ys)))\/(SqT X.K H p ys/\Q (.ref p) H))):=by
 intro pins s σ H xs us Q I r h;obtain⟨p,ys,rfl,h⟩:=h;obtain⟨u,rfl,rx⟩:=aXb r;cases rx;rcases h with⟨B,q⟩|⟨B,q⟩
 ·obtain⟨its,j,pl,D⟩:=I.list B;have hlen:=j.length;refine call_tuple_list pl.isList (λh' kp=>?_) (by simp only[av] <;> omega)
  have J:Inv X pins σ H {s with heap:=h'}:=I.kept (t':=s.toks) kp
  have L:Inv X pins σ (upd H h'.objs.size (.tup ys)) {s with heap:=h'.push {cls:=.type "tuple",data:=.seq its.toArray}} :=
   J.laid (t':=s.toks) (λb o e=>af _ e) (Nat.le_refl _) (show ObjOk X.prog X.w _ _ _ (.tup ys) from⟨D,its,j,IsTup.new _ _,bJ0⟩)
  exact⟨.ref h'.objs.size,_,L,rfl,q _ (J.hok.fresh (Nat.le_refl _))⟩
 ·obtain⟨its,j,pl,D⟩:=I.tuple B;exact call_tuple_same pl ⟨.ref p,H,I,rfl,q⟩
def tyV(K:ar)(T:String)(x:V)(H:Hp):Prop:=match x with
 |.str _=>T="str"
 |.int _=>T="int"
 |.ref p=>(T="list"/\∃xs,SqL K H p xs)\/(T="tuple"/\∃o,K.lookup p=some o/\o.cls=.type "tuple"/\o.dict=none) \/
   (T="dict"/\((∃kvs,H p=some (.dK kvs))\/∃kvs,H p=some (.dT kvs)))\/(T="set"/\∃S n,H p=some (.set S n))
 |_=>False
theorem eZ4{pins:List (Addr×Obj)}{σ:St}{H:Hp}{s:ah}{T:String}{x:V}{v:ad}(I:Inv X pins σ H s)(r:RelV x v)(ty:tyV X.K T x H) :
  s.TypeIs v T/\∀a,v=.ref a->∃ob,s.heap.get? a=some ob/\ob.dict=none:=by
 cases x with
 |str z =>
  obtain⟨t,rfl⟩:=r;cases (show T="str" from ty)
  exact⟨typeIs_str s z t,λ_ e=>nomatch e⟩
 |int i =>
  obtain⟨t,rfl⟩:=r;cases (show T="int" from ty)
  exact⟨typeIs_int s i t,λ_ e=>nomatch e⟩
 |ref p =>
  cases r;rcases ty with⟨rfl,xs,D⟩|⟨rfl,o,j,J,hd⟩|⟨rfl,j⟩|⟨rfl,S,n,j⟩
  ·obtain⟨its,_,pl,_⟩:=I.list D;refine⟨pl.isList.typeIs,λa e=>?_⟩;cases e;obtain⟨o,n,e,c,hd,_⟩:=pl;exact⟨o,e,hd⟩
  ·refine⟨⟨o,I.kIn p o j,J⟩,λa e=>?_⟩;cases e;exact⟨o,I.kIn _ o j,hd⟩
  ·have z:∃o,s.heap.get? p=some o/\o.ExactDict:=by
    rcases j with⟨B,j⟩|⟨B,j⟩
    ·obtain⟨_,_,_,_,o,_,_,e,ex,_⟩:=I.hok p _ j;exact⟨o,e,ex⟩
    ·obtain⟨_,_,_,_,o,_,_,e,ex,_⟩:=I.hok p _ j;exact⟨o,e,ex⟩
   obtain⟨o,e,ex⟩:=z;refine⟨⟨o,e,ex.1⟩,λa e2=>?_⟩;cases e2;exact⟨o,e,ex.2.1⟩
  ·obtain⟨o,_,_,_,e,ex,_⟩:=I.hok p _ j;refine⟨⟨o,e,ex.1⟩,λa e2=>?_⟩;cases e2;exact⟨o,e,ex.2.1⟩
 |_=>exact db ty
def tBM(K:ar)(T:String)(r:V->List V->Hp->VK->Prop)(to:TE)(t:TA):TE:=fun σ H Q=>to σ H λx H1=>tyV K T x H1/\t σ H1 λxs H2=>r x xs H2 Q
variable{o e:Expr}{es:List Expr}{to:TE}{t:TA}{name:Str}{apos cpos:Pos}{T id:String}{r:V->List V->Hp->VK->Prop}
theorem fQ5(pa:PlainAttrs T)(slot:Slot T name id)(hty:typeOf (.builtin id)=pure (.type "method_descriptor"))(hm:MtR X id r)(ho:PE X o to)(ha:PA X (e::es) t)
  (hbase:gD o name X.env (eval o X.env)=eval o X.env:=by rfl)
  (hfew:((cq cpos (az (e::es) X.env)).all (λx=>!x.1) && (iK cpos (fN [] X.env)).all (λx=>x.1.isSome)
   && decide ((e::es).length+([]:List gQ).length+(if ([]:List gQ).isEmpty then 0 else 1)<30))=true:=by rfl)
  (hline:(apos.endLine==cpos.line)=true:=by rfl) (hs:az (e::es) X.env=(false,eval e X.env)::az es X.env:=by rfl) (hplain:(cq cpos (az es X.env)).any (·.1)=false:=by rfl) :
  PE X (.Call (.Attribute o name apos) (e::es) [] cpos) (tBM X.K T r to t):=by
 intro pins s σ H Q I h;refine wpAny_Call_method_late hbase hfew hline rfl (thn (ho pins s σ H _ I h) λv s1 ⟨x,H1,D,j,ty,N⟩=>?_);obtain⟨h1,h2⟩:=eZ4 D j ty;refine⟨T,id,pa,slot,hty,h1,h2,?_⟩;have B:=ha cpos pins s1 σ H1 _ D N;rw[hs] at B ⊢;refine jb (by show(false||(cq cpos (az es X.env)).any (·.1))=false;rw[hplain] <;> rfl) (Calls.evalArgs_plain ?_)
 exact thn B λus s2 ⟨vs,H2,O,J,L⟩=>hm pins s2 σ H2 x vs v us Q O j J L
end
def MtM(X:Cx)(id:String)(r:V->List V->Hp->VK->Prop):Prop :=
 ∀(pins:List (Addr×Obj)) (s:ah) (σ:St) (H:Hp) (x:V) (xs:List V) (v:ad) (us:List ad) (Q:VK),Inv X pins σ H s->RelV x v->Vals xs us->r x xs H Q ->
  aF (aB X.prog X.w) X.A (call (.builtin id) (v::us)) (EP X pins σ Q) X.xe s
theorem Vals.one:∀{x:V}{us:List ad},Vals [x] us->∃u,us=[u]/\RelV x u:=by
 intro x us h;cases h with
 |cons r t=>cases t;exact⟨_,rfl,r⟩
theorem Vals.eraseIdx:∀{xs:List V}{us:List ad}(i:Nat),Vals xs us->Vals (xs.eraseIdx i) (us.eraseIdx i)
 |_,_,_,.nil=>.nil
 |_,_,0,.cons _ t=>t
 |_,_,i+1,.cons r t=>.cons r (Vals.eraseIdx i t)
theorem bZg{α:Type}:∀(l:List α) (i:Nat),(l.eraseIdx i).length<=l.length
 |[],_=>Nat.le_refl _
 |_::_,0=>Nat.le_succ _
 |_::r,i+1=>Nat.succ_le_succ (bZg r i)
section
variable{X:Cx}{pins:List (Addr×Obj)}{σ:St}{H:Hp}{s:ah}{l b:Addr}{xs ys zs:List V}
theorem Inv.lset{its its':List ad}{n:Nat}{f:Array ad->Array ad}{t':Nat}(I:Inv X pins σ H s)(hH:H l=some (.lst xs))
  (e:s.heap.get? l=some {cls:=.type "list",data:=.seq its.toArray n}) (hf:f its.toArray=its'.toArray) (hv:Vals ys its') (hz:ys.length<=sizeLine) :
  Inv X pins σ (upd H l (.lst ys)) {s with heap:=s.heap.update l (bD f),toks:=t'}:=by
 have q:=PySem.IsL.update e f;rw[hf] at q;refine I.write (x:=l) (e:=l) (by rw[hH];exact trivial) (.inl rfl) (λD u B j=>(bi s.heap (bD f) (dA B)).trans j) ⟨_,q⟩ ?_
 exact⟨hz,its',_,hv,q⟩
theorem Inv.lnew{its:List ad}{t':Nat}(I:Inv X pins σ H s)(hv:Vals ys its)(hz:ys.length<=sizeLine) :
  Inv X pins σ (upd H s.heap.objs.size (.lst ys)) {s with heap:=s.heap.push {cls:=.type "list",data:=.seq its.toArray},toks:=t'} :=
 I.laid (λ_ _ q=>af _ q) (Nat.le_refl _) ⟨hz,its,0,hv,aq _ rfl⟩
theorem Inv.fresh(I:Inv X pins σ H s):H s.heap.objs.size=none:=I.hok.fresh (Nat.le_refl _)
theorem Inv.lstM(I:Inv X pins σ H s)(hH:H l=some (.lst xs)):xs.length<=sizeLine/\∃(its:List ad) (n:Nat),Vals xs its/\xs.length=its.length/\s.heap.get? l=some {cls:=.type "list",data:=.seq its.toArray n}:=by
 obtain⟨z,its,n,r,e⟩:=I.hok l _ hH;exact⟨z,its,n,r,r.length,e⟩
end
section
variable{X:Cx}
def cQu:V->List V->Hp->VK->Prop:=λx vs H Q=>∃l xs y,x=.ref l/\vs=[y]/\H l=some (.lst xs)/\xs.length<sizeLine/\Q .non (upd H l (.lst (xs++[y])))
theorem bZh:MtM X "list.append" cQu:=by
 intro pins s σ H x vs v us Q I rx B h;obtain⟨l,xs,y,rfl,rfl,j,J,q⟩:=h;cases rx;obtain⟨u,rfl,D⟩:=B.one;obtain⟨z,its,n,r,hl,e⟩:=I.lstM j;refine call_meets F.slot_list_append ⟨_,e,rfl⟩ F.entry_list_append (F.args_list_append_2 _ _) (PySem.list_append l its.toArray n u (by rw[av];omega)) ⟨e,?_⟩
 refine⟨.non,_,I.lset (its':=its++[u]) j e (by simp) (r.append (.cons D .nil)) ?_,rfl,q⟩
 rw[aG,List.length_singleton];omega
def dQk:V->List V->Hp->VK->Prop:=λx vs H Q=>∃l xs i k y,x=.ref l/\vs=[.int i]/\H l=some (.lst xs)/\-(2^63)<=i/\i<2^63/\seqIndex? i xs.length=some k/\xs[k]?=some y/\Q y (upd H l (.lst (xs.eraseIdx k)))
theorem cJa:MtM X "list.pop" dQk:=by
 intro pins s σ H x vs v us Q I rx D h;obtain⟨l,xs,i,k,y,rfl,rfl,B,h1,h2,N,L,q⟩:=h;cases rx;obtain⟨u,rfl,J⟩:=D.one;obtain⟨t,rfl⟩:=J;obtain⟨z,its,n,r,hl,e⟩:=I.lstM B;obtain⟨w,hw,j⟩:=r.get L;refine call_meets F.slot_list_pop ⟨_,e,rfl⟩ F.entry_list_pop (F.args_list_pop_2 _ _)
  (MeetsSeq.list_pop_at l its.toArray n i t k w (fitsIndex_both h1 h2) (by rw[av,<- hl];exact N) (by rw[<- aU];exact hw) (by rw[av];omega)) ⟨e,?_⟩
 refine⟨y,_,I.lset (its':=its.eraseIdx k) B e ?_ (r.eraseIdx k) ?_,j,q⟩
 ·show its.toArray.eraseIdxIfInBounds k=(its.eraseIdx k).toArray;rw[List.eraseIdxIfInBounds_toArray]
 ·have:=bZg xs k
  omega
end
section
variable{prog:aE}{w:aQ}{A:aW}{E:ad->ah->Prop}{s:ah}
set_option maxRecDepth 100000 in
end
end L2
namespace Att
open PySem PySem.W PySem.Calls PyProof.Rows
theorem aJk{P:Params}{h:aX}:∀(ns:List Int) (vs:List ad),WellAll P h vs (ns.map WData.int)->gC vs ns:=by
 intro ns
 induction ns with
 |nil =>
  intro vs w;rw[eP] at w;cases w;exact .nil
 |cons n ns j =>
  intro vs w;rw[bg] at w;cases w with
  |cons a b =>
   cases a;exact .cons _ _ (j _ b)
theorem cQv{l:OpenLaw}{n:Nat}(hn:l.most=some n){P:Params}{h:aX}{args:List WData}{vals:List ad}
  (hpre:l.row.toRowW.claim.pre args=true) (hwl:WellAll P h vals args) :
  ∃a vs ns,vals=[fq a]/\args=[WData.list (ns.map WData.int)]/\h.get? a=some {cls:=.type "list",data:=.seq vs.toArray}/\gC vs ns/\ns.length<=n:=by
 have J:WShape.hasAll [] args [.list .int]=true:=(pre_splitW hpre).1;have L:l.pre.holds [] {args:=args}=true:=(pre_splitW hpre).2;obtain⟨d,r,rfl,h1,h2⟩:=hasAllW_cons J;obtain rfl:=hasAllW_nil h2;obtain⟨xs,rfl,Y⟩:=hasW_list h1;obtain⟨ns,rfl⟩:=items_int Y;have hlen:ns.length<=n:=by
  unfold OpenLaw.pre at L;have D:(WTm.not (.lt (.lit (.int (n:Int))) (.len (.arg 0)))).holds [] {args:=[.list (ns.map .int)]}=true:=by
   have D:=(holds_andW L).1;rw[hn] at D;exact D
  have B:=condW_of D (w_not (w_lt w_lit (w_len_list (w_arg rfl))));rw[ak] at B;refine Nat.le_of_not_lt λq=>?_;have N:(n:Int)<((ns.length:Nat):Int):=by omega
  first
   |(rw[decide_eq_true N] at B;exact absurd B (by decide))
   |(simp at B;omega)
 cases hwl with
 |cons w1 w2 =>
  cases w2;cases w1 with
  |list O j=>exact⟨_,_,ns,rfl,rfl,O,aJk ns _ j,hlen⟩
theorem cQw(l:OpenLaw)(args:List WData):l.row.toRowW.claim.post args (.bool true) args=true :=
 postW_of (r:=l.row.toRowW) (X:=(true==true))
  (show WShape.has [] (.bool true) .bool=true by first|rfl|decide|simp[WShape.has,WShape.arms,WShape.armsAll])
  (show(WTm.eq .res (.lit (.bool true))).value [] {args:=args,res:=some (.bool true),after:=args}=some (.bool (true==true)) from w_eq_bool (w_res rfl) w_lit) rfl
theorem attach_call{l:OpenLaw}{n:Nat}{q:aE}{loose:List Str}{XP:(Str->Option ad)->aX->Prop}{YP:aQ->aX->Prop}{d:DefRec}
  (hn:l.most=some n) (hdf:d.params.defaults=[])
  (call:∀ (w:aQ) (s₀ s₁:ah) (mg mb:Str->Option ad) (fa:Addr) (o:Obj) (pm cd doc:ad) (a:Addr) (vs:List ad) (ns:List Int),
   Ground q loose [] XP w s₀ mg mb s₁.heap->YP w s₁.heap ->
   s₁.heap.get? fa=some o->o.data=.func (docDef d.name d.params d.body d.scope pm cd doc)->s₁.heap.CodeRec cd d.name->mg d.name=some (.ref fa) ->
   s₁.heap.get? a=some {cls:=.type "list",data:=.seq vs.toArray}->gC vs ns->ns.length<=n->s₁.gens=#[] ->
   eN (aB l.prog w) callerA (.call (.ref fa) ⟨[.ref a],[]⟩) (λr s'=>r=.ok (.ret (.bool true))/\OldK s₁.heap s'.heap/\s'.os=s₁.os/\ir s'.gens) s₁) :
  WalkO q loose XP YP l.row.toRowW d [] (λf vs=>PySem.call f vs):=by
 intro w s₀ s₁ mg mb G Y fa o pm cd doc dV kV ho hd L O J hg args vals as j N Z D hlo;obtain rfl:dV=.none:=Dflts.none O hdf;obtain rfl:kV=.none:=Dflts.noKw O;obtain⟨a,vs,ns,rfl,rfl,B,hints,hlen⟩:=cQv hn j D;refine enter_call (codeAny_mono (call w s₀ s₁ mg mb fa o pm cd doc a vs ns G Y ho (fd_plain hd) L J B hints hlen hg) λr s' hq=>?_);obtain⟨rfl,h2,h3,h4⟩:=hq;exact⟨.inl ⟨.bool true,.bool true,[],rfl,λ_=>rfl,.bool true,cQw l _,λ_=>⟨fV,λ_ hm=>(nomatch hm)⟩⟩,h2,h3,h4⟩
end Att
namespace L2
open PySem PySem.Spec PyProof.Rows
theorem aJl:∀{vs:List ad}{ns:List Int},gC vs ns->Vals (ns.map V.int) vs
 |_,_,.nil=>.nil
 |_,_,.cons n t h=>.cons ⟨t,rfl⟩ (aJl h)
abbrev KOf{K:ar}{h:aX}(_:K.In h):ar:=K
def aXc(s:Stmt):Arguments:=match s with
 |.FunctionDef _ a _ _ _ _ _ _ _ _=>a
 |_=>{posonlyargs:=[],args:=[],vararg:=none,kwonlyargs:=[],kw_defaults:=[],kwarg:=none,defaults:=[]}
def aZ5(s:Stmt):List Stmt:=match s with
 |.FunctionDef _ _ b _ _ _ _ _ _ _=>b
 |_=>[]
def aQ3(s:Stmt):Scope:=match s with
 |.FunctionDef _ _ _ _ _ _ sc _ _ _=>sc
 |_=>{kind:=.function,names:=[],isGenerator:=false,isCoroutine:=false}
abbrev CX0:CXT:=λ_ _ _ _ _ _=>False
abbrev E0:XK:=λ_ _ _=>False
theorem fQ6{X:Cx}:cQq CX0 X E0:=λ_ _ _ _ _ _ _ h=>h.elim
structure Fun(K:ar)(x qual:Str)(st:Stmt)(f:Addr)(fd:c6):Prop where
 ex:∃(oc:ad) (od:Option Addr) (kV doc pm:ad) (an:Option Addr) (cdv ct:ad) (osl:Array (Option ad)),
  fd=ej x qual (aXc st) (aZ5 st) (aQ3 st) .none kV doc pm an cdv ct/\K.lookup f=some ⟨oc,od,.func fd,osl⟩/\fT K cdv qual=true
 kp:fc K (.ref f)=true
section
variable{P:aE}{w:aQ}{K:ar}{mg:Str->Option ad}{base:aX}
theorem Fun.ok{x qual:Str}{st:Stmt}{f:Addr}{fd:c6}{N ps:List Str}{k:Nat}{sp:Sp}(F:Fun K x qual st f fd)(S:FnScope N ps (aQ3 st))(len:∀vs H Q E,sp vs H Q E->vs.length=ps.length)
  (hbody:∀ (cdv:ad) (A:aW) (outer:List Env) (s:ah) (H:Hp) (vs:List V) (Q:VK) (E:XK),Room k (A.deeper (g9 qual (aQ3 st) s.heap.objs.size f cdv))->sp vs H Q E ->
   ∃t,PSs (cxOf CX0 P w K mg base N qual (aQ3 st) f cdv A outer s H E).nox (aZ5 st) t/\t {nx:=λ_ H'=>Q .non H',rt:=Q} (start N vs) H):FnOk P w K mg base CX0 (k+1) f fd ps sp:=by
 obtain⟨oc,L,kV,doc,pm,an,cdv,ct,D,rfl,lk,B⟩:=F.ex;refine eZ0 lk B S len λA outer s H vs Q E J j=>?_;obtain⟨t,h,q⟩:=hbody cdv A outer s H vs Q E J j;exact⟨t,h.nox,q⟩
theorem Fun.binds{x qual:Str}{st:Stmt}{f:Addr}{fd:c6}{ps:List Str}(F:Fun K x qual st f fd)
  (h:∀(kV doc pm:ad) (an:Option Addr) (cdv ct:ad) (us:List ad),us.length=ps.length->bindArgs (ej x qual (aXc st) (aZ5 st) (aQ3 st) .none kV doc pm an cdv ct) ⟨us,[]⟩=pure (ps.zip us)):Binds K fd ps []:=by
 obtain⟨oc,D,kV,doc,pm,an,cdv,ct,j,rfl,lk,B⟩:=F.ex;exact .all (h kV doc pm an cdv ct)
theorem dQl{x qual:Str}{st:Stmt}{f:Addr}{oc:ad}{od an:Option Addr}{osl:Array (Option ad)}{kV doc pm cdv ct:ad}(l:K.lookup f=some ⟨oc,od,.func (ej x qual (aXc st) (aZ5 st) (aQ3 st) .none kV doc pm an cdv ct),osl⟩)
  (c:fT K cdv qual=true) (k:fc K (.ref f)=true):Fun K x qual st f (ej x qual (aXc st) (aZ5 st) (aQ3 st) .none kV doc pm an cdv ct):=⟨⟨oc,od,kV,doc,pm,an,cdv,ct,osl,rfl,l,c⟩,k⟩
end
theorem ite2{c A B:Prop}[Decidable c](h1:c->A)(h2:¬ c->B):if c then A else B:=by
 by_cases h:c
 ·rw[if_pos h];exact h1 h
 ·rw[if_neg h];exact h2 h
def Same(H H':Hp):Prop:=∀b o,H b=some o->H' b=some o
end L2
set_option maxHeartbeats 4000000
namespace L2
open PySem PySem.Spec PyProof.Rows
theorem aXp(env:Env):∀(names:List (Str×eV)) (acc:List (Str×Addr)),(∀x,(x,aT)∈names->∃c,env.cells.lookup x=some c)->(∀x c,acc.lookup x=some c->env.cells.lookup x=some c) ->
  ∃cl,(forIn names acc λ(y:Str×eV) (cs:List (Str×Addr))=>(if (y.2==aT)=true then do let a <- cellOf env y.1;pure (bz ((y.1,a)::cs)) else pure (bz cs):Sem (ForInStep (List (Str×Addr)))))=pure cl /\
   (∀x c,cl.lookup x=some c->env.cells.lookup x=some c)/\(∀x,((x,aT)∈names\/(acc.lookup x).isSome=true)->(cl.lookup x).isSome=true)
 | [],acc,_,B=>⟨acc,by rfl,B,λx h=>by
   rcases h with h|h
   ·cases h
   ·exact h⟩
 |(n,k)::rest,acc,hn,B=>by
  by_cases hk:(k==aT)=true
  ·have D:k=aT:=by cases k <;> first|rfl|cases hk
   subst D;obtain⟨c,J⟩:=hn n au;obtain⟨cl,e,h1,h2⟩:=aXp env rest ((n,c)::acc) (λx hx=>hn x (ay _ hx)) (λx d hx=>by
    simp only[cE] at hx
    by_cases j:(x==n)=true
    ·rw[j] at hx;cases hx;rw[gq j];exact J
    ·rw[fW.mpr j] at hx;exact B x d hx)
   refine⟨cl,?_,h1,λx hx=>h2 x ?_⟩
   ·rw[dJ];have L:cellOf env n=pure c:=by unfold cellOf;rw[J]
    simp only[hk,if_true,L,pure_bind];exact e
   ·rcases hx with hx|hx
    ·rcases aM.mp hx with hx|hx
     ·cases hx;right;simp
     ·exact .inl hx
    ·right
     simp only[cE];cases x==n <;> simp[hx]
  ·obtain⟨cl,e,h1,h2⟩:=aXp env rest acc (λx hx=>hn x (ay _ hx)) B;refine⟨cl,?_,h1,λx hx=>h2 x ?_⟩
   ·rw[dJ];simp only[hk,if_false,pure_bind,bS];exact e
   ·rcases hx with hx|hx
    ·rcases aM.mp hx with hx|hx
     ·cases hx;exact absurd rfl hk
     ·exact .inl hx
    ·exact .inr hx
inductive Cap(N:List Str)(sc:Scope):List Str->List (Option Nat)->Prop
 |nil:Cap N sc [] []
 |own {x xs is}:Cap N sc xs is->Cap N sc (x::xs) (none::is)
 |cap {x xs is i}:N[i]?=some x->(x,aT)∈sc.names->Cap N sc xs is->Cap N sc (x::xs) (some i::is)
theorem Cap.length{N:List Str}{sc:Scope}{xs:List Str}{is:List (Option Nat)}(c:Cap N sc xs is):xs.length=is.length:=by
 induction c with
 |nil=>rfl
 |own _ j=>simp[j]
 |cap _ _ _ j=>simp[j]
theorem Cap.get{N:List Str}{sc:Scope}{xs:List Str}{is:List (Option Nat)}(c:Cap N sc xs is):∀{j i:Nat}{x:Str},xs[j]?=some x->is[j]?=some (some i)->N[i]?=some x/\(x,aT)∈sc.names:=by
 induction c with
 |nil=>intro j i x h;simp at h
 |own _ B =>
  intro j i x h1 h2;cases j with
  |zero=>simp at h2
  |succ j=>exact B (by simpa using h1) (by simpa using h2)
 |cap D hf _ B =>
  intro j i x h1 h2;cases j with
  |zero=>simp at h1 h2;subst h1;subst h2;exact⟨D,hf⟩
  |succ j=>exact B (by simpa using h1) (by simpa using h2)
def capt(is:List (Option Nat))(σ:St):St:=is.map λo=>o.bind λi=>(σ[i]?).join
theorem aZx{sc:Scope}{env:Env}:∀{names:List (Str×eV)}{x:Str},(names.lookup x=some .cell\/names.lookup x=some .free)->((names.map λ(n,k)=>if (k==aT&&env.scope.kind ==.function&&env.kindOf n==some .cell) then (n,gE) else (n,k)).lookup x=some .cell\/(names.map λ(n,k)=>if (k==aT&&env.scope.kind ==.function&&env.kindOf n==some .cell) then (n,gE) else (n,k)).lookup x=some .free)
 |[],x,h=>by simp at h
 |(n,k)::r,x,h=>by
  simp only[bg]
  by_cases j:(k==aT&&env.scope.kind ==.function&&env.kindOf n==some .cell)=true
  ·rw[if_pos j];simp only[cE] at h ⊢;cases hx:x==n with
   |true=>exact .inl rfl
   |false=>rw[hx] at h;exact aZx (sc:=sc) h
  ·rw[if_neg j];simp only[cE] at h ⊢;cases hx:x==n with
   |true=>rw[hx] at h;exact h
   |false=>rw[hx] at h;exact aZx (sc:=sc) h
theorem aXq{sc:Scope}{env:Env}:∀{names:List (Str×eV)}{x:Str},((names.map λ(n,k)=>if (k==aT&&env.scope.kind ==.function&&env.kindOf n==some .cell) then (n,gE) else (n,k)).lookup x=some .cell\/(names.map λ(n,k)=>if (k==aT&&env.scope.kind ==.function&&env.kindOf n==some .cell) then (n,gE) else (n,k)).lookup x=some .free)->names.lookup x=some .cell\/names.lookup x=some .free
 |[],x,h=>by simp at h
 |(n,k)::r,x,h=>by
  simp only[bg] at h
  by_cases j:(k==aT&&env.scope.kind ==.function&&env.kindOf n==some .cell)=true
  ·rw[if_pos j] at h;simp only[cE] at h ⊢;cases hx:x==n with
   |true =>
    right
    have:k==aT:=by
     simp only[bL] at j;exact j.1.1
    cases k <;> first|rfl|cases this
   |false=>rw[hx] at h;exact aXq (sc:=sc) h
  ·rw[if_neg j] at h;simp only[cE] at h ⊢;cases hx:x==n with
   |true=>rw[hx] at h;exact h
   |false=>rw[hx] at h;exact aXq (sc:=sc) h
theorem aJm{α β:Type}[BEq α][LawfulBEq α]:∀{l:List (α×β)}{x:α}{k:β},l.lookup x=some k->(x,k)∈l
 |(n,j)::r,x,k,h=>by
  simp only[cE] at h;cases hx:x==n with
  |true=>rw[hx] at h;cases h;rw[gq hx];exact au
  |false=>rw[hx] at h;exact ay _ (aJm h)
def PTs(X:Cx)(ifs:List Expr)(t:TT):Prop :=
 ∀(pins:List (Addr×Obj)) (s:ah) (σ:St) (H:Hp) (Q:Bool->Hp->Prop),Inv X pins σ H s->t σ H Q ->
  aF (aB X.prog X.w) X.A (forIn ifs true λc r=>if r=true then do let ok <- isTrue c X.env (eval c X.env);pure (bz ok) else pure (bz r)) (TP X pins σ Q) X.xe s
def tYes:TT:=λ_ H Q=>Q true H
theorem dZp{X:Cx}:PTs X [] tYes:=λpins s σ H Q I h=>wpAny_tests_nil ⟨H,I,h⟩
theorem dZq{X:Cx}{c:Expr}{t:TT}(h:PT X c t):PTs X [c] t:=λpins s σ H Q I q=>wpAny_tests_one (h pins s σ H Q I q)
def Wk(σ0 σ2:St):Prop:=σ2.length=σ0.length/\∀(j:Nat) v,σ0[j]?=some (some v)->σ2[j]?=some (some v)
def okV(names outer:List (Str×eV)):Bool:=names.all λy=>match y.2 with
 |.free=>match outer.lookup y.1 with
  |some .cell=>true
  |some .free=>true
  |_=>false
 |_=>true
theorem dQm{names:List (Str×eV)}{sc:Scope}(h:okV names sc.names=true):∀y∈names,y.2=.free->Vis sc y.1/\sc.names.lookup y.1≠some .local:=λy j hf=>by
 have:=b8.mp h y j
 rw[hf] at this;unfold Vis;cases q:sc.names.lookup y.1 with
 |none=>rw[q] at this;cases this
 |some k=>rw[q] at this;cases k <;> first|(simp;done)|cases this
structure Bs(mg:Str->Option ad):Prop where
 len:mg "len"=none
 range:mg "range"=none
 sorted:mg "sorted"=none
 tuple:mg "tuple"=none
 list:mg "list"=none
 set:mg "set"=none
 sum:mg "sum"=none
 min:mg "min"=none
 max:mg "max"=none
 all:mg "all"=none
 any:mg "any"=none
 isinstance:mg "isinstance"=none
 int:mg "int"=none
 str:mg "str"=none
 bool:mg "bool"=none
 zip:mg "zip"=none
 enumerate:mg "enumerate"=none
theorem eZ5:cf "len"=some (.builtin "len"):=by decide +kernel
theorem bZi:cf "sorted"=some (.builtin "sorted"):=by decide +kernel
theorem eZ6:cf "min"=some (.builtin "min"):=by decide +kernel
theorem eZ7:cf "all"=some (.builtin "all"):=by decide +kernel
theorem dQn:cf "any"=some (.builtin "any"):=by decide +kernel
theorem cJb:cf "tuple"=some (.type "tuple"):=by decide +kernel
theorem cQx:cf "list"=some (.type "list"):=by decide +kernel
theorem eZ8:cf "int"=some (.type "int"):=by decide +kernel
structure Df(P:aE)(w:aQ)(K:ar)(mg:Str->Option ad)(base:aX)(k:Nat)(x:Str)(ps:List Str)(sp:Sp):Prop where
 ex:∃(f:Addr) (fd:c6),FnOk P w K mg base CX0 k f fd ps sp/\Binds K fd ps []/\fc K (.ref f)=true/\mg x=some (.ref f)
theorem Df.mono{P:aE}{w:aQ}{K:ar}{mg:Str->Option ad}{base:aX}{j k:Nat}{x:Str}{ps:List Str}{sp:Sp}(D:Df P w K mg base j x ps sp)(h:j<=k):Df P w K mg base k x ps sp:=by
 obtain⟨f,fd,a,b,c,d⟩:=D.ex;exact⟨f,fd,a.mono h,b,c,d⟩
theorem cJc{X:Cx}{k:Nat}{x:Str}{ps:List Str}{sp:Sp}{p pos:Pos}{e:Expr}{es:List Expr}{t:TA}(D:Df X.prog X.w X.K X.mg X.base k x ps sp)(hr:Room k X.A)(hg:Gl X x)(ha:PA X (e::es) t)
  (hdb:(x==("__debug__":Str))=false:=by decide) (he:az (e::es) X.env=(false,eval e X.env)::az es X.env:=by rfl) (hpl:(cq pos (az es X.env)).any (·.1)=false:=by rfl) :
  PE X (.Call (.Name x p) (e::es) [] pos) (eQy sp [] E0 t):=by
 obtain⟨f,fd,F,B,j,hm⟩:=D.ex;exact dZi F hr hg hm j B .nil fQ6 ha hdb he hpl
structure Tx(K:ar)(mg:Str->Option ad)(x:Str)(st:Stmt):Prop where
 ex:∃(f:Addr) (fd:c6),Fun K x x st f fd/\mg x=some (.ref f)
theorem Tx.df{P:aE}{w:aQ}{K:ar}{mg:Str->Option ad}{base:aX}{k:Nat}{x:Str}{st:Stmt}{ps:List Str}{sp:Sp}(T:Tx K mg x st)
  (b:∀{f:Addr}{fd:c6},Fun K x x st f fd->Binds K fd ps []) (h:∀{f:Addr}{fd:c6},Fun K x x st f fd->FnOk P w K mg base CX0 k f fd ps sp):Df P w K mg base k x ps sp:=by
 obtain⟨f,fd,F,m⟩:=T.ex;exact⟨f,fd,h F,b F,F.kp,m⟩
theorem tx_mk{K:ar}{h:aX}{mg:Str->Option ad}{x:Str}{st:Stmt}{f:Addr}{od an:Option Addr}{sl:Array (Option ad)}{oc kV dc pm cd ct:ad}(X:K.In h)(G:h.Ns aS mg)
  (a:bu K aS x=some (some (.ref f))) (l:K.lookup f=some ⟨oc,od,.func (ej x x (aXc st) (aZ5 st) (aQ3 st) .none kV dc pm an cd ct),sl⟩) (c:fT K cd x=true) (k:fc K (.ref f)=true):Tx K mg x st :=
 ⟨f,_,dQl (st:=st) l c k,jw X G a⟩
theorem bs_mk{K:ar}{h:aX}{mg:Str->Option ad}(X:K.In h)(G:h.Ns aS mg)(a:∀x∈(["len", "range", "sorted", "tuple", "list", "set", "sum", "min", "max", "all", "any", "isinstance", "int", "str", "bool", "zip", "enumerate"]:List Str),bu K aS x=some none):Bs mg:=by
 have q:∀x∈(["len", "range", "sorted", "tuple", "list", "set", "sum", "min", "max", "all", "any", "isinstance", "int", "str", "bool", "zip", "enumerate"]:List Str),mg x=none:=λx j=>hU X G (a x j);constructor <;> exact q _ (by decide +kernel)
theorem bs_all{K:ar}(z1:bu K aS "len"=some none)(z2:bu K aS "range"=some none)(z3:bu K aS "sorted"=some none)(z4:bu K aS "tuple"=some none)(z5:bu K aS "list"=some none)(z6:bu K aS "set"=some none)
  (z7:bu K aS "sum"=some none) (z8:bu K aS "min"=some none) (z9:bu K aS "max"=some none) (z10:bu K aS "all"=some none) (z11:bu K aS "any"=some none) (z12:bu K aS "isinstance"=some none)
  (z13:bu K aS "int"=some none) (z14:bu K aS "str"=some none) (z15:bu K aS "bool"=some none) (z16:bu K aS "zip"=some none) (z17:bu K aS "enumerate"=some none) :
  ∀x∈(["len", "range", "sorted", "tuple", "list", "set", "sum", "min", "max", "all", "any", "isinstance", "int", "str", "bool", "zip", "enumerate"]:List Str),bu K aS x=some none:=λx j=>by
 simp only[aM,gu,or_false] at j;rcases j with rfl|rfl|rfl|rfl|rfl|rfl|rfl|rfl|rfl|rfl|rfl|rfl|rfl|rfl|rfl|rfl|rfl <;> assumption
end L2
set_option maxHeartbeats 1000000
namespace L2
open PySem PySem.Spec PyProof.Rows
def bQm(ifs:List Expr)(env:Env):Sem Bool:=forIn ifs true λc r=>if r=true then do let ok <- isTrue c env (eval c env);pure (bz ok) else pure (bz r)
def aZa(target:Expr)(ifs:List Expr)(at0:Pos)(m:Sem Unit)(c:Code)(it:ad)(env:Env):Sem Fin :=
 fF at0>>=λ_=>eL it>>=λr=>match r with
  |none=>pure (.done .next)
  |some v=>eU target it v>>=λ_=>i7 target env v>>=λ_=>bQm ifs env>>=λok=>if ok=true then m>>=λ_=>again c else again c
def emitOf(elt:Expr)(acc:ad)(env:Env):Sem Unit:=eval elt env>>=λx=>call (.builtin "list.append") [acc,x]>>=λ_=>pure ()
def innerOf(e:Expr)(iter:Expr)(acc:ad)(env:Env):Sem Unit:=eval iter env>>=λx=>fF iter.pos>>=λ_=>cH iter env x>>=λx=>ft [x] (pyIter x)>>=λit=>runOwn (.compStart e 1 it acc env) env>>=λ_=>pure ()
theorem aQa(elt target iter:Expr)(ifs:List Expr)(scope:Scope)(pos:Pos)(it acc:ad)(env:Env) :
  fg (.ListComp elt [⟨target,iter,ifs,0⟩] scope pos) 0 it acc env=aZa target ifs iter.pos (emitOf elt acc env) (.compLoop (.ListComp elt [⟨target,iter,ifs,0⟩] scope pos) 0 it acc env) it env:=by
 rw[compTurn_list];unfold aZa bQm emitOf;refine congrArg _ (funext λ_=>congrArg _ (funext λr=>?_));cases r with
 |none=>rfl
 |some v =>
  refine congrArg _ (funext λ_=>congrArg _ (funext λ_=>congrArg _ (funext λok=>?_)));cases ok <;> rfl
abbrev TB:=St->Hp->(Hp->Prop)->Prop
def PB(X:Cx)(m:Sem Unit)(t:TB):Prop :=
 ∀(pins:List (Addr×Obj)) (s:ah) (σ:St) (H:Hp) (N:Hp->Prop),Inv X pins σ H s->t σ H N ->
  aF (aB X.prog X.w) X.A m (λ_ s'=>∃σ' H',Inv X pins σ' H' s'/\Wk σ σ'/\N H') (λ_ _=>False) s
def eZ9(D:Addr)(te:TE):TB:=fun σ H N=>te σ H λy H4=>∃zs,H4 D=some (.lst zs)/\zs.length<sizeLine/\N (upd H4 D (.lst (zs++[y])))
def bX9(J:It)(σ0:St)(g:TG)(tt:TT)(tb:TB)(Q:Hp->Prop)(H:Hp):Prop :=
 ∃W:Nat->Nat->Hp->Prop,(∃m,W 0 m H)/\∀i m H,W i m H ->
  (J.stop i H/\Q H)\/(J.go i H/\∃ N:Hp->Prop,(∀ H',N H'->∃ m',m' < m/\W (i + 1) m' H') /\
   ∀x H',J.yld i H x H'->g x σ0 H' fun σ2 H2=>Wk σ0 σ2/\tt σ2 H2 λb H3=>if b=true then tb σ2 H3 N else N H3)
def dQo(wi:TI)(g:TG)(tt:TT)(tb:TB):TB:=fun σ H N=>wi σ H λJ H1=>bX9 J σ g tt tb N H1
def cQy(is:List (Option Nat))(wi:TI)(g:TG)(tt:TT)(tb:Addr->TB):TE:=fun σ H Q=>wi σ H λJ H1=>∀D,H1 D=none->bX9 J (capt is σ) g tt (tb D) (Q (.ref D)) (upd H1 D (.lst []))
theorem Wk.refl(σ:St):Wk σ σ:=⟨rfl,λ_ _ h=>h⟩
theorem Wk.trans{a b c:St}(h:Wk a b)(k:Wk b c):Wk a c:=⟨k.1.trans h.1,λj v e=>k.2 j v (h.2 j v e)⟩
theorem fQ7{σ:St}{i:Nat}{v:V}(h:σ[i]?=some none):Wk σ (σ.set i (some v)):=by
 refine⟨List.length_set,λj u e=>?_⟩
 by_cases B:j=i
 ·subst B;rw[h] at e;cases e
 ·rw[fb (dA B)];exact e
section
variable{X:Cx}
theorem aQi{elt:Expr}{te:TE}{D:Addr}(hxe:X.xe=λ_ _=>False)(he:PE X elt te):PB X (emitOf elt (.ref D) X.env) (eZ9 D te):=by
 intro pins s σ H N I h;unfold emitOf;have h1:=he pins s σ H _ I h;rw[hxe] at h1;refine aa (thn h1 λy s1 ⟨v,H1,Y,B,zs,L,j,n⟩=>aa ?_);have h2:=bZh pins s1 σ H1 (.ref D) [v] (.ref D) [y] (λu Z=>u=.non/\N Z) Y rfl (.cons B .nil) ⟨D,zs,v,rfl,rfl,L,j,rfl,n⟩;rw[hxe] at h2;exact thn h2 λ_ s2 ⟨u,H2,O,_,_,J⟩=>ae ⟨σ,H2,O,Wk.refl σ,J⟩
theorem bQn{e target:Expr}{ifs:List Expr}{at0:Pos}{d:Nat}{acc:ad}{it:Addr}{m:Sem Unit}{g:TG}{tt:TT}{tb:TB}{J:It}{fp:List Addr}{tn:Nat->aX->Prop}{Q:Hp->Prop}{R:Result->ah->Prop}{pins:List (Addr×Obj)}{s:ah}{σ:St}{H:Hp}
  (hcalm:X.calm=true) (hxe:X.xe=λ_ _=>False) (hturn:fg e d (.ref it) acc X.env=aZa target ifs at0 m (.compLoop e d (.ref it) acc X.env) (.ref it) X.env)
  (hfr:(gF e d (.ref it) acc X.env).isFrame=false) (hA:X.A.under (gF e d (.ref it) acc X.env)=X.A)
  (T:Turn X.prog X.w X.K target J fp it tn) (hg:PG X target g) (ht:PTs X ifs tt) (hb:PB X m tb)
  (I:Inv X pins σ H s) (st:tn 0 s.heap) (f:∀b∈fp,FpOk X pins H b) (h:bX9 J σ g tt tb Q H)
  (fin:∀H' s',Inv X pins σ H' s'->(∀b∈fp,FpOk X pins H' b)->Q H'->R (.ok .next) s') :
  eN (aB X.prog X.w) X.A (.compLoop e d (.ref it) acc X.env) R s:=by
 obtain⟨W,⟨m0,w0⟩,turn⟩:=h;have j:∀{H':Hp},(∀b∈fp,H' b=none)->∀b∈fp,FpOk X pins H' b:=λhn b hb=>⟨hn b hb,(f b hb).2⟩;refine codeAny_loop rfl (λn s'=>∃i H',Inv X pins σ H' s'/\tn i s'.heap/\(∀b∈fp,H' b=none)/\W i n H') ?_ m0 ⟨0,H,I,st,λb hb=>(f b hb).1,w0⟩;rintro n s3 ⟨i,H3,I3,Z,L,w3⟩;have eden:(aB X.prog X.w).den (.compLoop e d (.ref it) acc X.env)=(fg e d (.ref it) acc X.env).onRaise (λx=>do noteFrame x X.env;theTreesLotGoes x):=by
  show(if (gF e d (.ref it) acc X.env).isFrame=true then _ else _)=_
  rw[hfr];rfl
 rw[eden,hturn,hA];refine wpAny_noted ?_;unfold aZa;refine aa (fD ?_);rcases turn i n H3 w3 with⟨stop,qn⟩|⟨go,N,hN,step⟩
 ·refine aa (thn (T.done X rfl rfl rfl hcalm i pins s3 σ H3 _ I3 (j L) Z stop) λr s4 ⟨hr,I4⟩=>?_);subst hr;exact ae (fin H3 s4 I4 (j L) qn)
 ·refine aa (thn (T.item X rfl rfl rfl hcalm i pins s3 σ H3 _ I3 (j L) Z go) λr s4 ⟨u,hr,h4⟩=>?_);subst hr;refine aa (thn h4 λ_ s5 ⟨x,H5,I5,r5,y5,D,fr5⟩=>?_);have I5':=I5.pinned (j fr5) (T.obj _ _ D);have q5:=hg _ s5 σ H5 x u _ I5' r5 (step x H5 y5);rw[hxe] at q5;refine aa (cj q5 (λ_ s6 ⟨σ6,H6,I6,Y,q6⟩=>?_) λ_ _ z=>z.elim);have q7:=ht _ s6 σ6 H6 _ I6 q6;rw[hxe] at q7;refine aa (cj q7 (λok s7 ⟨H7,I7,q7⟩=>?_) λ_ _ z=>z.elim);have B:∀{σ8:St}{O:Hp}{s8:ah},Inv X (pins++bZd fp s5.heap) σ8 O s8->Wk σ σ8->N O->∃m,m<n/\∃i H',Inv X pins σ H' s8/\tn i s8.heap/\(∀b∈fp,H' b=none)/\W i m H':=λ{σ8 O s8} I8 wk n8=>by
   obtain⟨m',hm,w8⟩:=hN O n8;refine⟨m',hm,i+1,O,I8.unpinned.weak wk.1.symm wk.2,T.keep _ _ _ D λb hb o e=>(I8.pin (b,o) (bf _ (bf _ (aX4 hb e)))).1,λb hb=>?_,w8⟩;obtain⟨o,e,_⟩:=T.obj _ _ D b hb;exact(I8.pin (b,o) (bf _ (bf _ (aX4 hb e)))).2.1
  cases ok with
  |false=>exact ae ⟨rfl,B I7 Y q7⟩
  |true =>
   refine aa (cj (hb _ s7 σ6 H7 N I7 q7) (λ_ s8 ⟨σ8,O,I8,wk8,n8⟩=>?_) λ_ _ z=>z.elim);exact ae ⟨rfl,B I8 (Y.trans wk8) n8⟩
end
section
variable{X:Cx}
theorem cQz{e target iter:Expr}{ifs:List Expr}{it acc:ad}{env:Env}{A:aW}{prog:aE}{w:aQ}{R:Result->ah->Prop}{s:ah}(hc:(clausesOf e)[1]?=some ⟨target,iter,ifs,0⟩)(hfr:(fX e 1 it acc env).isFrame=false)(hA:A.under (fX e 1 it acc env)=A)
  (h0:eN (aB prog w) A (.compLoop e 1 it acc env) R s)
  (h:aF (aB prog w) A (pyIter it) (λit' s'=>eN (aB prog w) A (.compLoop e 1 it' acc env) R s') (notedBy (aB prog w) A env λx s'=>R (.error x) s') s) :
  eN (aB prog w) A (.compStart e 1 it acc env) R s:=by
 refine codeAny_of_tree ?_;have j:(aB prog w).den (.compStart e 1 it acc env)=(compStart e 1 it acc env).onRaise (λx=>do noteFrame x env;fF theWindowsPlace):=by
  show(if (fX e 1 it acc env).isFrame=true then _ else _)=_
  rw[hfr];rfl
 rw[j,hA];refine wpAny_notedAt ?_;unfold compStart;rw[hc];simp only[Option.elim,bne_self_eq_false,bS,if_false];refine aa (dw (wpAny_ite ?_))
 split
 ·first
   |exact aa (ae (ae (iL rfl h0)))
   |exact ae (iL rfl h0)
 ·refine aa (cx ?_);refine aa (fD (aa (cj h (λit' s' h'=>ae (iL rfl h')) λ_ _ x=>x)))
theorem cJd{e t2 i2:Expr}{ifs2:List Expr}{acc:ad}{m:ad->Sem Unit}{wi:TI}{g:TG}{tt:TT}{tb:TB}(hcalm:X.calm=true)(hxe:X.xe=λ_ _=>False)(hc:(clausesOf e)[1]?=some ⟨t2,i2,ifs2,0⟩)
  (hturn:∀it,fg e 1 (.ref it) acc X.env=aZa t2 ifs2 i2.pos (m acc) (.compLoop e 1 (.ref it) acc X.env) (.ref it) X.env)
  (hi:PI X t2 i2 wi) (hg:PG X t2 g) (ht:PTs X ifs2 tt) (hb:PB X (m acc) tb)
  (hs:∀x,cH i2 X.env x=pure x) (hfr:∀it,(fX e 1 it acc X.env).isFrame=false) (hfr2:∀it,(gF e 1 it acc X.env).isFrame=false)
  (hA:∀it,X.A.under (fX e 1 it acc X.env)=X.A) (hA2:∀it,X.A.under (gF e 1 it acc X.env)=X.A) :
  PB X (innerOf e i2 acc X.env) (dQo wi g tt tb):=by
 intro pins s σ H N I h;unfold innerOf;have h1:=hi pins s σ H _ I h;rw[hxe] at h1;refine aa (thn h1 λv s1 D=>aa (fD (aa (wpAny_of_eq (hs v) (aa (bb (thn D λL s2 B=>?_)))))));obtain⟨it,fp,Z,J,H2,rfl,O,T,j,f2,B⟩:=B;refine aa (wpAny_runOwn ?_);have loop:eN (aB X.prog X.w) X.A (.compLoop e 1 (.ref it) acc X.env) (λr s'=>match r with
   |.ok f=>aF (aB X.prog X.w) X.A (pure ()) (λ_ s'=>∃σ' H',Inv X pins σ' H' s'/\Wk σ σ'/\N H') (λ_ _=>False) s'
   |.error x=>cameBackBy (aB X.prog X.w) X.A X.env (λ_ _=>False) x s') s2 :=
  bQn hcalm hxe (hturn it) (hfr2 _) (hA2 _) T hg ht hb O j f2 B λH' s' Y _ n=>ae ⟨σ,H',Y,Wk.refl σ,n⟩
 exact cQz hc (hfr _) (hA _) loop (T.self _ 0 _ _ _ j loop)
end
theorem aXr(env:Env):∀(names:List (Str×eV)) (acc:List (Str×Addr)),(∀x,(x,aT)∈names->∃c,env.cells.lookup x=some c) ->
  ∃cl,(forIn names acc λ(y:Str×eV) (cs:List (Str×Addr))=>(if (y.2==aT)=true then do let a <- cellOf env y.1;pure (bz ((y.1,a)::cs)) else pure (bz cs):Sem (ForInStep (List (Str×Addr)))))=pure cl /\
   (∀x c,cl.lookup x=some c->(x,aT)∈names\/acc.lookup x=some c)
 |[],acc,_=>⟨acc,by rfl,λ_ _ h=>.inr h⟩
 |(n,k)::rest,acc,hn=>by
  by_cases hk:(k==aT)=true
  ·have B:k=aT:=by cases k <;> first|rfl|cases hk
   subst B;obtain⟨c,D⟩:=hn n au;obtain⟨cl,e,h1⟩:=aXr env rest ((n,c)::acc) (λx j=>hn x (ay _ j));refine⟨cl,?_,λx d j=>?_⟩
   ·rw[dJ];have J:cellOf env n=pure c:=by unfold cellOf;rw[D]
    simp only[hk,if_true,J,pure_bind];exact e
   ·rcases h1 x d j with z|z
    ·exact .inl (ay _ z)
    ·simp only[cE] at z;cases hxn:x==n with
     |true=>rw[gq hxn];exact .inl au
     |false=>rw[hxn] at z;exact .inr z
  ·obtain⟨cl,e,h1⟩:=aXr env rest acc (λx j=>hn x (ay _ j));refine⟨cl,?_,λx d j=>?_⟩
   ·rw[dJ];simp only[hk,if_false,pure_bind,bS];exact e
   ·rcases h1 x d j with z|z
    ·exact .inl (ay _ z)
    ·exact .inr z
theorem aX9{env:Env}{scope:Scope}(hn:∀x,(x,aT)∈scope.names->∃c,env.cells.lookup x=some c) :
  ∃cl,hX scope env=pure cl/\(∀x c,cl.lookup x=some c->env.cells.lookup x=some c)/\(∀x,(x,aT)∈scope.names->(cl.lookup x).isSome=true)/\∀x c,cl.lookup x=some c->(x,aT)∈scope.names:=by
 obtain⟨cl,e,h1,h2⟩:=aXp env scope.names [] hn (λx c h=>by cases h)
 obtain⟨cl',J,B⟩:=aXr env scope.names [] hn;have D:cl=cl':=by
  have:=e.symm.trans J
  injection this
 subst D;refine⟨cl,?_,h1,λx j=>h2 x (.inl j),λx c j=>(B x c j).elim id λz=>by cases z⟩
 have q:hX scope env=(forIn scope.names ([]:List (Str×Addr)) λ(y:Str×eV) (cs:List (Str×Addr))=>(if (y.2==aT)=true then do let a <- cellOf env y.1;pure (bz ((y.1,a)::cs)) else pure (bz cs):Sem (ForInStep (List (Str×Addr))))):=by
  unfold hX;exact bind_pure _
 rw[q,e]
def ocl(oc:Option Str)(c:Addr)(cl:List (Str×Addr)):List (Str×Addr):=match oc with
 |none=>cl
 |some x=>(x,c)::cl
def ohp(oc:Option Str)(h:aX):aX:=match oc with
 |none=>h
 |some _=>h.push {cls:=.type "cell",data:=.cell none}
theorem aJn{oc:Option Str}{c d:Addr}{cl:List (Str×Addr)}{x:Str}(h:(ocl oc c cl).lookup x=some d):(oc=some x/\d=c)\/cl.lookup x=some d:=by
 cases oc with
 |none=>exact .inr h
 |some z =>
  unfold ocl at h;simp only[cE] at h;cases hx:x==z with
  |true=>rw[hx] at h;cases h;rw[gq hx];exact .inl ⟨rfl,rfl⟩
  |false=>rw[hx] at h;exact .inr h
theorem bJ3{oc:Option Str}{c:Addr}{cl:List (Str×Addr)}{x:Str}(h:(cl.lookup x).isSome=true):∃d,(ocl oc c cl).lookup x=some d:=by
 cases oc with
 |none=>exact dD.mp h
 |some z =>
  unfold ocl;simp only[cE];cases hx:x==z with
  |true=>exact⟨_,rfl⟩
  |false=>exact dD.mp h
theorem dZr{c:Addr}{cl:List (Str×Addr)}{x:Str}:(ocl (some x) c cl).lookup x=some c:=by unfold ocl;simp
theorem aJd{oc:Option Str}{h:aX}{b:Addr}{o:Obj}(e:h.get? b=some o):(ohp oc h).get? b=some o:=by
 cases oc with
 |none=>exact e
 |some _=>exact af _ e
def aQk(X:Cx)(N':List Str)(scope:Scope)(cl:List (Str×Addr))(C:Addr)(fp:List Addr)(s:ah)(H:Hp)(oc:Option Str):Cx :=
 {X with N:=N',s₀:=s,H₀:=H,env:=iM scope cl C X.env,outer:=X.stack,ex:=fp,fn:=λx=>decide (oc=some x),pn:=[],xe:=λ_ _=>False}
theorem cZ0{scope:Scope}{env:Env}{cl:List (Str×Addr)}{M:Model}{A:aW}{E:ad->ah->Prop}{s:ah}{Q:Env->ah->Prop}
  (h:Q {scope:=scope,locals:=s.heap.objs.size,globals:=env.globals,cells:=fu (s.heap.objs.size+1) scope.names cl,qual:=env.qual,func:=none,code:=env.code,frame:=env.frame,builtins:=env.builtins} {s with heap:=gW (s.heap.push {cls:=.type "dict",data:=.dict #[]}) scope.names}) :
  aF M A (newFunctionEnv scope env.globals cl [] env.qual none .none (some env)) Q E s:=by
 unfold newFunctionEnv;simp only[Option.isSome_some,if_true];refine aa (wpAny_alloc ?_);refine aa (wpAny_layCells _ (λname kind cells=>by cases hkc:kind==gE <;> simp[hkc]) _ _ _ _ ?_)
 rw[show({s with heap:=s.heap.push {cls:=.type "dict",data:=.dict #[]}}:ah).heap.objs.size=s.heap.objs.size+1 from cZ ..]
 exact aa (ae (ae h))
section
variable{X:Cx}{pins:List (Addr×Obj)}{σ:St}{H H':Hp}{s s2:ah}
theorem bQ8{N':List Str}{scope:Scope}{cl:List (Str×Addr)}{fp:List Addr}{oc:Option Str}(I:Inv X pins σ H s)(hf:∀b∈fp,FpOk X pins H b)(hfl:∀b∈fp,b<s.heap.objs.size)(hkind:scope.kind=.function)
  (c1:∀x c,cl.lookup x=some c->X.env.cells.lookup x=some c) (c2:∀x,(x,aT)∈scope.names->(cl.lookup x).isSome=true) (hcell:∀y∈scope.names,y.2=.cell->oc=some y.1) (hun:∀x,oc=some x->cl.lookup x=none) :
  (aQk X N' scope (ocl oc (s.heap.objs.size+1) cl) s.heap.objs.size fp s H oc).Ok where
 mod:=I.ok.mod
 kind:=hkind
 glob:=I.ok.glob
 blt:=I.ok.blt
 above:=Nat.le_refl _
 inj:=λx y c h1 h2=>by
  have old:∀z,cl.lookup z=some (s.heap.objs.size+1)->False:=λz e=>by
   obtain⟨v,q⟩:=I.cell z _ (c1 z _ e);exact absurd (show s.heap.objs.size+1<s.heap.objs.size from q.lt) (Nat.not_lt.mpr (Nat.le_succ _))
  rcases aJn h1 with⟨e1,rfl⟩|e1 <;> rcases aJn h2 with⟨e2,e⟩|e2
  ·rw[e1] at e2;exact aR e2
  ·exact(old y e2).elim
  ·subst e;exact(old x e1).elim
  ·exact I.ok.inj x y c (c1 x c e1) (c1 y c e2)
 has:=λx D=>by
  have j:scope.names.lookup x=some .cell\/scope.names.lookup x=some .free:=aXq (sc:=scope) D;rcases j with j|j
  ·have e:=hcell _ (aJm j) rfl;subst e;exact⟨_,dZr⟩
  ·exact bJ3 (c2 x (aJm j))
 cab:=λx c h J=>by
  have h':oc=some x:=of_decide_eq_true h;rcases aJn J with⟨_,rfl⟩|e
  ·exact Nat.le_succ _
  ·rw[hun x h'] at e;cases e
 hd:=I.ok.hd
 frames:=I.ok.frames
 gd:=I.ok.gd
 stk:=.inl rfl
 exf:=λb B=>⟨Nat.ne_of_lt (hfl b B),λx c e=>by
  rcases aJn e with⟨_,rfl⟩|e
  ·intro z;exact absurd (show s.heap.objs.size+1<s.heap.objs.size from z▸hfl b B) (Nat.not_lt.mpr (Nat.le_succ _))
  ·exact(hf b B).2.2.2.2.1 x c (c1 x c e)⟩
 bs:=I.bs
 bsz:=Nat.le_trans I.ok.bsz I.sz
 noex:=λb o e B=>by
  rcases(hf b B).2.2.2.1 with z|z
  ·exact I.ok.noex b o e z
  ·have q:=I.ok.bs b o e;exact absurd (Nat.lt_of_lt_of_le (aA q.1) z) (Nat.lt_irrefl _)
 exfs:=λb B z=>by
  rcases aM.mp (I.stkSub b z) with e|e
  ·exact(hf b B).2.1 e
  ·exact(hf b B).2.2.1 e
 funs:=I.stack
 frf:=I.stkFree
theorem aJo{N':List Str}{is:List (Option Nat)}{scope:Scope}{cl:List (Str×Addr)}{fp:List Addr}{oc:Option Str}(I:Inv X pins σ H s)(ok:(aQk X N' scope (ocl oc (s.heap.objs.size+1) cl) s.heap.objs.size fp s H oc).Ok)(hN:X.N.Nodup)
  (c1:∀x c,cl.lookup x=some c->X.env.cells.lookup x=some c) (c2:∀x,(x,aT)∈scope.names->(cl.lookup x).isSome=true) (hu:∀x,(x,aT)∈scope.names->scope.names.lookup x=some .free) (cp:Cap X.N scope N' is)
  (hV:∀x,(x,aT)∈scope.names->Vis X.env.scope x/\X.env.scope.names.lookup x≠some .local) (hun:∀x,oc=some x->cl.lookup x=none) :
  Inv (aQk X N' scope (ocl oc (s.heap.objs.size+1) cl) s.heap.objs.size fp s H oc) [] (capt is σ) H {s with heap:=ohp oc (s.heap.push {cls:=.type "dict",data:=.dict #[]})}:=by
 have kp:∀b o,s.heap.get? b=some o->(ohp oc (s.heap.push {cls:=.type "dict",data:=.dict #[]})).get? b=some o:=λb o e=>aJd (af _ e);exact {
 ok:=ok
 os:=rfl
 bare:=I.bare
 base:=Un.kept kp
 loc:=by
  refine⟨_,(aX.Ns.new s.heap (.type "dict")).keeps λb o e=>aJd e,λj x v e1 e2 e3=>?_⟩;have e1':N'[j]?=some x:=e1;unfold capt at e2;rw[aK] at e2;cases hi:is[j]? with
  |none=>rw[hi] at e2;cases e2
  |some o =>
   rw[hi] at e2;cases o with
   |none=>cases e2
   |some i =>
    obtain⟨hx,B⟩:=cp.get e1' hi;have e2':(σ[i]?).join=some v:=aR e2;have e4:σ[i]?=some (some v):=by
     cases q:σ[i]? with
     |none=>rw[q] at e2';cases e2'
     |some z=>rw[q] at e2';cases z with
      |none=>cases e2'
      |some z=>cases e2';rfl
    obtain⟨m,hn,hl⟩:=I.loc;obtain⟨J,Z⟩:=hV x B;obtain⟨u,r,l⟩:=hl i x v hx e4 J;refine⟨u,r,.inr ⟨aZx (sc:=scope) (.inr (hu x B)),?_⟩⟩;rcases l with⟨k,_⟩|⟨k,c,e,z⟩
    ·exact absurd k Z
    ·obtain⟨L,e'⟩:=bJ3 (oc:=oc) (c:=s.heap.objs.size+1) (c2 x B);have ee:L=c:=by
      rcases aJn e' with⟨O,_⟩|O
      ·have:=c2 x B;rw[hun x O] at this;cases this
      ·have:=c1 x L O;rw[e] at this;exact(aR this).symm
     subst ee;obtain⟨D,Y,hd⟩:=z;exact⟨L,e',D,kp L D Y,hd⟩
 cell:=λx c e=>by
  rcases aJn (show(ocl oc (s.heap.objs.size+1) cl).lookup x=some c from e) with⟨z,rfl⟩|e
  ·subst z;refine⟨none,{cls:=.type "cell",data:=.cell none},?_,rfl⟩;show((s.heap.push _).push _).get? _=_;rw[<- cZ s.heap {cls:=.type "dict",data:=.dict #[]}];exact aq _ rfl
  ·obtain⟨v,o,ho,hd⟩:=I.cell x c (c1 x c e);exact⟨v,o,kp c o ho,hd⟩
 free:=I.hok.fresh (Nat.le_refl _)
 freeC:=λx c e=>by
  rcases aJn (show(ocl oc (s.heap.objs.size+1) cl).lookup x=some c from e) with⟨z,rfl⟩|e
  ·exact I.hok.fresh (Nat.le_succ _)
  ·exact I.freeC x c (c1 x c e)
 pin:=λp hp=>absurd (show p∈([]:List (Addr×Obj)) from hp) (by simp)
 hok:=I.hok.kept kp
 len:=by
  show(capt is σ).length=N'.length;unfold capt;rw[ak,cp.length]}
def FrC(X:Cx)(pins:List (Addr×Obj))(C:Addr)(H:Hp):Prop:=H C=none/\C≠X.env.locals/\X.s₀.heap.objs.size<=C/\(∀x c,X.env.cells.lookup x=some c->c≠C)/\∀p∈X.pn++pins,p.1≠C
theorem FrC.gone{C:Addr}{h':aX}(f:FrC X pins C H)(I:Inv X pins σ H s)(sb:cR C s.heap h'):Inv X pins σ H {s with heap:=h'} :=
 I.turned (t':=s.toks) (λb o j e=>(sb.2 b j).trans e) f.1 f.2.1 (.inr f.2.2.1) f.2.2.2.1 f.2.2.2.2
theorem comp_gen{elt target iter:Expr}{ifs:List Expr}{gs:List eY}{scope:Scope}{pos:Pos}{N':List Str}{is:List (Option Nat)}{wi:TI}{g:TG}{tt:TT}{tb:Addr->TB}{oc:Option Str}{m:ad->Env->Sem Unit}(hcalm:X.calm=true)(hN:X.N.Nodup)
  (hturn:∀it acc env,fg (.ListComp elt (⟨target,iter,ifs,0⟩::gs) scope pos) 0 it acc env=aZa target ifs iter.pos (m acc env) (.compLoop (.ListComp elt (⟨target,iter,ifs,0⟩::gs) scope pos) 0 it acc env) it env)
  (cp:Cap X.N scope N' is) (hi:PI X target iter wi)
  (hg:∀cl C fp s H,PG (aQk X N' scope cl C fp s H oc) target g) (ht:∀cl C fp s H,PTs (aQk X N' scope cl C fp s H oc) ifs tt) (hb:∀cl C fp s H D,PB (aQk X N' scope cl C fp s H oc) (m (.ref D) (iM scope cl C X.env)) (tb D))
  (hcf:∀n acc,fu n scope.names acc=ocl oc n acc) (hpc:∀h,gW h scope.names=ohp oc h)
  (hkind:scope.kind=.function) (hcell:∀y∈scope.names,y.2=.cell->oc=some y.1)
  (hu:∀y∈scope.names,scope.names.lookup y.1=some y.2) (hoc:∀x,oc=some x->scope.names.lookup x=some .cell)
  (hVb:okV scope.names X.env.scope.names=true)
  (hs:∀x,cH iter X.env x=pure x)
  {use:Option (ad->Sem Unit)}{Q:VK}{Qv:ad->ah->Prop}(I:Inv X pins σ H s) (h:cQy is wi g tt tb σ H Q)
  (fin:∀D C H5 s6,Inv X pins σ H5 s6->(∃m,s6.heap.Ns C m)->FrC X pins C H5->Q (.ref D) H5->compPost (aB X.prog X.w) X.A X.xe use Qv (.ref D) C (.ok .next) s6) :
  aF (aB X.prog X.w) X.A (comprehension (.ListComp elt (⟨target,iter,ifs,0⟩::gs) scope pos) scope X.env (firstIterPos (⟨target,iter,ifs,0⟩::gs) pos) (newList []) (firstAsync (⟨target,iter,ifs,0⟩::gs)) (firstIter (⟨target,iter,ifs,0⟩::gs) X.env) use) Qv X.xe s:=by
 have hV:=dQm hVb;have hV':∀x,(x,aT)∈scope.names->Vis X.env.scope x/\X.env.scope.names.lookup x≠some .local:=λx j=>hV (x,.free) j rfl;have hu':∀x,(x,aT)∈scope.names->scope.names.lookup x=some .free:=λx j=>hu (x,.free) j;have B:∀x∈scope.names,x.2=.local->scope.names.lookup x.1=some .local:=λx j hl=>by rw[hu x j,hl]
 obtain⟨cl,O,c1,c2,c3⟩:=aX9 (env:=X.env) (scope:=scope) λx j=>I.ok.has x (by
  obtain⟨v,n⟩:=hV' x j;rcases v with v|v|v
  ·exact absurd v n
  ·exact .inl v
  ·exact .inr v)
 have hun:∀x,oc=some x->cl.lookup x=none:=λx j=>by
  cases e:cl.lookup x with
  |none=>rfl
  |some c =>
   have:=hu' x (c3 x c e)
   rw[hoc x j] at this;cases this
 refine wpAny_comprehension_free (use:=use) rfl hs O hkind B (thn (hi pins s σ H _ I h) λv s1 h1=>thn h1 λitv s2 h2=>?_);obtain⟨it,fp,tn,J,H2,rfl,I2,T,st2,f2,q2⟩:=h2;refine bd ?_;have hD:H2 s2.heap.objs.size=none:=I2.hok.fresh (Nat.le_refl _);have fpl:∀b∈fp,b<s2.heap.objs.size:=λb hb=>by obtain⟨o,e,_⟩:=T.obj _ _ st2 b hb;exact aA e
 have Y:Inv X pins σ (upd H2 s2.heap.objs.size (.lst [])) {s2 with heap:=s2.heap.push {cls:=.type "list",dict:=none,data:=.seq ([]:List ad).toArray}} :=
  I2.laid (t':=s2.toks) (λb u e=>af _ e) (Nat.le_refl _) ⟨Nat.zero_le _,[],0,.nil,aq _ rfl⟩
 have st3:tn 0 (s2.heap.push {cls:=.type "list",dict:=none,data:=.seq ([]:List ad).toArray}):=T.keep _ _ _ st2 λb hb o e=>af _ e;have Z:∀b∈fp,FpOk X pins (upd H2 s2.heap.objs.size (.lst [])) b:=λb hb=>⟨by rw[upd_ne (Nat.ne_of_lt (fpl b hb))];exact(f2 b hb).1,(f2 b hb).2⟩
 have L:∀b∈fp,b<(s2.heap.push {cls:=.type "list",dict:=none,data:=.seq ([]:List ad).toArray}).objs.size:=λb hb=>by rw[cZ];exact Nat.lt_succ_of_lt (fpl b hb)
 have q3:=q2 _ hD;generalize hDe:s2.heap.objs.size=D at *
 generalize hs3:({s2 with heap:=s2.heap.push {cls:=.type "list",dict:=none,data:=.seq ([]:List ad).toArray}}:ah)=s3 at *
 have hsh:s3.heap=s2.heap.push {cls:=.type "list",dict:=none,data:=.seq ([]:List ad).toArray}:=by rw[<- hs3]
 rw[<- hsh] at st3 L;have ok:=bQ8 (N':=N') (cl:=cl) (oc:=oc) Y Z L hkind c1 c2 hcell hun;have I4:=aJo Y ok hN c1 c2 hu' cp hV' hun;refine cZ0 ?_;rw[hcf,hpc];have kp:∀b o,s3.heap.get? b=some o->(ohp oc (s3.heap.push {cls:=.type "dict",data:=.dict #[]})).get? b=some o:=λb o e=>aJd (af _ e);have st4:tn 0 (ohp oc (s3.heap.push {cls:=.type "dict",data:=.dict #[]})):=T.keep _ _ _ st3 λb _ o e=>kp b o e;have f4:∀b∈fp,FpOk (aQk X N' scope (ocl oc (s3.heap.objs.size+1) cl) s3.heap.objs.size fp s3 (upd H2 D (.lst [])) oc) [] (upd H2 D (.lst [])) b:=λb hb =>
  ⟨(Z b hb).1,(ok.exf b hb).1,ok.exfs b hb,.inl hb,(ok.exf b hb).2,λp hp=>absurd (show p∈([]:List (Addr×Obj)) from hp) (by simp)⟩
 have loop:=bQn (X:=aQk X N' scope (ocl oc (s3.heap.objs.size+1) cl) s3.heap.objs.size fp s3 (upd H2 D (.lst [])) oc) (e:=.ListComp elt (⟨target,iter,ifs,0⟩::gs) scope pos) (d:=0) (acc:=.ref D)
  (R:=compPost (aB X.prog X.w) X.A X.xe use Qv (.ref D) s3.heap.objs.size) hcalm rfl (hturn _ _ _) rfl rfl T (hg _ _ _ _ _) (ht _ _ _ _ _) (hb _ _ _ _ _ D) I4 st4 f4 q3 (by
   intro H5 s6 I6 _ qn;obtain⟨m6,n6,_⟩:=id I6.loc;have un:Un (frs X.stack) fp (upd H2 D (.lst [])) H5 s3.heap s6.heap:=I6.base;have hok':HOk X.prog X.w H5 s6.heap:=I6.hok;refine fin D s3.heap.objs.size H5 s6 (Y.call' (s':=s6) (ch:=fp) I6.os un hok' I6.bare λb hb=>⟨(Z b hb).2.2.2.1,(Z b hb).2.1,(Z b hb).2.2.2.2.1,(Z b hb).2.2.2.2.2⟩) ⟨m6,n6⟩ ⟨I6.free,Nat.ne_of_gt Y.lt,Y.sz,λx c e z=>?_,λp hp z=>?_⟩ qn
   ·obtain⟨v,q⟩:=Y.cell x c e;exact absurd q.lt (by rw[z];exact Nat.lt_irrefl _)
   ·exact absurd (aA (Y.pin p hp).1) (by rw[z];exact Nat.lt_irrefl _))
 exact codeAny_compStart_list loop (T.self _ 0 _ _ _ st4 loop)
theorem cJe{elt target iter:Expr}{ifs:List Expr}{gs:List eY}{scope:Scope}{pos:Pos}{N':List Str}{is:List (Option Nat)}{wi:TI}{g:TG}{tt:TT}{tb:Addr->TB}{oc:Option Str}{m:ad->Env->Sem Unit}(hcalm:X.calm=true)(hN:X.N.Nodup)
  (hturn:∀it acc env,fg (.ListComp elt (⟨target,iter,ifs,0⟩::gs) scope pos) 0 it acc env=aZa target ifs iter.pos (m acc env) (.compLoop (.ListComp elt (⟨target,iter,ifs,0⟩::gs) scope pos) 0 it acc env) it env)
  (cp:Cap X.N scope N' is) (hi:PI X target iter wi)
  (hg:∀cl C fp s H,PG (aQk X N' scope cl C fp s H oc) target g) (ht:∀cl C fp s H,PTs (aQk X N' scope cl C fp s H oc) ifs tt) (hb:∀cl C fp s H D,PB (aQk X N' scope cl C fp s H oc) (m (.ref D) (iM scope cl C X.env)) (tb D))
  (hcf:∀n acc,fu n scope.names acc=ocl oc n acc:=by intro _ _;rfl) (hpc:∀h,gW h scope.names=ohp oc h:=by intro _;rfl)
  (hkind:scope.kind=.function:=by rfl) (hcell:∀y∈scope.names,y.2=.cell->oc=some y.1:=by decide +kernel)
  (hu:∀y∈scope.names,scope.names.lookup y.1=some y.2:=by decide +kernel) (hoc:∀x,oc=some x->scope.names.lookup x=some .cell:=by intro x h;cases h <;> rfl)
  (hVb:okV scope.names X.env.scope.names=true:=by first|rfl|kernel_rfl)
  (hs:∀x,cH iter X.env x=pure x:=by intro _;rfl) :
  PE X (.ListComp elt (⟨target,iter,ifs,0⟩::gs) scope pos) (cQy is wi g tt tb):=by
 intro pins s σ H Q I h;rw[eval_ListComp];refine comp_gen hcalm hN hturn cp hi hg ht hb hcf hpc hkind hcell hu hoc hVb hs I h λD C O Y L ⟨m,n⟩ J B=>?_;exact⟨m,n,λh' j=>⟨.ref D,O,J.gone L j,rfl,B⟩⟩
end
end L2
set_option maxHeartbeats 4000000
namespace L2
open PySem PySem.Spec PyProof.Rows
abbrev Dn(α:Type):=Hp->V->α->Prop
abbrev Fg:=ar
def dS:Dn Str:=λ_ v x=>v=.str x
def dB:Dn Bool:=λ_ v b=>v=.bl b
def dT{α:Type}(K:Fg)(R:Dn α):Dn (List α):=λH v ds=>∃a xs,v=.ref a/\SqT K H a xs/\bG (R H) xs ds
def dL{α:Type}(K:Fg)(R:Dn α):Dn (List α):=λH v ds=>∃a xs,v=.ref a/\SqL K H a xs/\bG (R H) xs ds
theorem aX5{H:Hp}{p:Addr}{o:HO}(h:H p=none):Same H (upd H p o):=λb o' e=>by
 rw[upd_ne (by rintro rfl;rw[h] at e;cases e)];exact e
theorem Paired.imp{α β:Type}{F G:α->β->Prop}(h:∀a b,F a b->G a b):∀{l:List α}{m:List β},bG F l m->bG G l m
 |_,_,.nil=>.nil
 |_,_,.cons p q=>.cons (h _ _ p) (Paired.imp h q)
theorem beq_dec{α:Type}[DecidableEq α][BEq α][LawfulBEq α](a b:α):(a==b)=decide (a=b):=by
 by_cases h:a=b
 ·subst h;simp
 ·simp[h]
theorem Paired.get'{α β:Type}{F:α->β->Prop}:∀{l:List α}{m:List β}{i:Nat}{a:α},bG F l m->l[i]?=some a->∃b,m[i]?=some b/\F a b
 |_,_,_,_,.nil,h=>by simp at h
 |_,_,0,_,.cons p _,h=>by simp at h;subst h;exact⟨_,rfl,p⟩
 |_,_,i+1,a,.cons _ q,h=>by
  obtain⟨b,e,f⟩:=Paired.get' (i:=i) (a:=a) q (by simpa using h)
  exact⟨b,by simpa using e,f⟩
theorem eZa{α:Type}[DecidableEq α]:∀(ds es:List α),((bQ (min ds.length es.length)).all λj=>decide (ds[j]?=es[j]?))=true->ds.length=es.length->ds=es:=λds es h hl=>by
 apply e7;intro i
 by_cases hi:i<ds.length
 ·have:=b8.mp h i (cz.mpr (by lia))
  exact of_decide_eq_true this
 ·rw[bV (by lia),bV (by lia)]
theorem cZ1{α:Type}[DecidableEq α](ds es:List α)(n m:Nat)(hn:n=ds.length)(hm:m=es.length):((bQ (min n m)).all (λj=>decide (ds[j]?=es[j]?))&&(n==m))=decide (ds=es):=by
 subst hn;subst hm
 by_cases h:ds=es
 ·subst h;simp
 ·rw[decide_eq_false h,Bool.and_eq_false_iff]
  by_cases hl:ds.length=es.length
  ·left
   cases q:(bQ (min ds.length es.length)).all λj=>decide (ds[j]?=es[j]?) with
   |false=>rfl
   |true=>exact absurd (eZa ds es q hl) h
  ·right;simpa using hl
variable{α β γ:Type}
end L2
namespace ST
open PySem PySem.SetTable
end ST
set_option autoImplicit false
namespace ST
open PySem PySem.SetTable
theorem cZ2{α β:Type}{f:α->Option β}:∀{l:List α},(∀a∈l,(f a).isSome=true)->(l.filterMap f).length=l.length/\∀i:Nat,(l.filterMap f)[i]?=(l[i]?).bind f
 |[],_=>⟨rfl,λi=>by simp⟩
 |a::l,h=>by
  obtain⟨z,e⟩:=dD.mp (h a au);obtain⟨h1,h2⟩:=cZ2 (l:=l) (f:=f) λb j=>h b (ay _ j);rw[eC,e];refine⟨by simp[h1],λi=>?_⟩
  cases i with
  |zero=>simp[e]
  |succ i=>simpa using h2 i
theorem cJf{α:Type}(es:Array α):((bQ es.size).filterMap λk=>es[k]?)=es.toList:=by
 apply e7;intro i;have h:=cZ2 (l:=bQ es.size) (f:=λk=>es[k]?) (λa j=>by
  have:=cz.mp j
  simp[this])
 rw[h.2 i]
 by_cases c:i<es.size
 ·rw[List.getElem?_range c];simp
 ·rw[bV (by simpa using c)];simp[c]
open PySem.Spec PyProof.Rows
def bQo(h h':aX):Prop:=∀b o,h.get? b=some o->o.cls=.type "tuple"->h'.get? b=some o
def setOb(es:Array (Int×ad))(ep:Nat)(t:cB):Obj:={cls:=.type "set",dict:=none,data:=.set es ep t}
structure SetKd(prog:aE)(w:aQ)(κ:Type) where
 is:aX->κ->ad->Prop
 I:aX->Addr->Array (Int×ad)->Nat->cB->Prop
 inj:∀{h:aX}{k k':κ}{v:ad},is h k v->is h k' v->k=k'
 obj:∀{h:aX}{a:Addr}{es:Array (Int×ad)}{ep:Nat}{t:cB},I h a es ep t->h.get? a=some (setOb es ep t)
 fits:∀{h:aX}{a:Addr}{es:Array (Int×ad)}{ep:Nat}{t:cB},I h a es ep t->t.fits es.size=true
 few:∀{h:aX}{a:Addr}{es:Array (Int×ad)}{ep:Nat}{t:cB}{ks:List κ},I h a es ep t->bG (λ(e:Int×ad) k=>is h k e.2) es.toList ks->ks.Nodup->t.plain=true->es.size<=1
 fresh:∀{h:aX}{a:Addr}{led:Bool},h.get? a=some (setOb #[] 0 (.fresh 0 0 led))->I h a #[] 0 (.fresh 0 0 led)
 keepIs:∀{h h':aX}{k:κ}{v:ad},is h k v->bQo h h'->is h' k v
 keepI:∀{h h':aX}{a:Addr}{es:Array (Int×ad)}{ep:Nat}{t:cB},I h a es ep t->h'.get? a=h.get? a->bQo h h'->I h' a es ep t
 add:∀{A:aW}{E:ad->ah->Prop}{s:ah}{a:Addr}{es:Array (Int×ad)}{ep:Nat}{t:cB}{k:κ}{x:ad}{Q:Bool->ah->Prop},A.units<de->I s.heap a es ep t->is s.heap k x->es.size+1<=300 ->
  (∀ h' tk es' ep' t' added,I h' a es' ep' t'->cR a s.heap h'->t'.led=t.led->s.toks<=tk ->
   ((added=false/\es'=es/\∃e∈es.toList,is s.heap k e.2)\/(added=true/\(∃hh,es'.toList.Perm ((hh,x)::es.toList))/\¬ ∃e∈es.toList,is s.heap k e.2))->Q added {s with heap:=h',toks:=tk}) ->
  aF (aB prog w) A (setAdd a x) Q E s
theorem bXa{h h':aX}{a:Addr}{es:Array (Int×ad)}{ep:Nat}{t:cB}(ho:h.get? a=some (setOb es ep t))(sb:cR a h h'):bQo h h':=λb o e c=>by
 refine(sb.2 b ?_).trans e;rintro rfl;rw[ho] at e;have B:o=setOb es ep t:=(aR e).symm;rw[B] at c;have D:d0 "set"=d0 "tuple":=c;injection D with j
 exact absurd j (by decide)
section
variable{prog:aE}{w:aQ}
theorem bQ9{α β:Type}{R:α->β->Prop}:∀{l:List α}{m:List β},bG R l m->∀a∈l,∃b∈m,R a b
 |_,_,.nil,a,h=>nomatch h
 |_,_,.cons r t,a,h=>by
  rcases aM.mp h with rfl|h
  ·exact⟨_,au,r⟩
  ·obtain⟨b,j,q⟩:=bQ9 t a h;exact⟨b,ay _ j,q⟩
theorem aJp{α β:Type}{R:α->β->Prop}:∀{l:List α}{m:List β},bG R l m->∀b∈m,∃a∈l,R a b
 |_,_,.nil,a,h=>nomatch h
 |_,_,.cons r t,a,h=>by
  rcases aM.mp h with rfl|h
  ·exact⟨_,au,r⟩
  ·obtain⟨b,j,q⟩:=aJp t a h;exact⟨b,ay _ j,q⟩
theorem bXb{α β:Type}{R:α->β->Prop}{l l':List α}(p:l'.Perm l):∀{m:List β},bG R l m->∃m',m'.Perm m/\bG R l' m':=by
 have gen:∀{l l':List α},l.Perm l'->∀{m:List β},bG R l m->∃m',m'.Perm m/\bG R l' m':=by
  intro l l' p
  induction p with
  |nil=>intro m h;cases h;exact⟨[],dE _,.nil⟩
  |cons x _ L =>
   intro m h;cases h with
   |cons r t =>
    obtain⟨m',h1,h2⟩:=L t;exact⟨_,h1.cons _,.cons r h2⟩
  |swap x y l =>
   intro m h;cases h with
   |cons r t =>
    cases t with
    |cons D t2=>exact⟨_,jq.swap _ _ _,.cons D (.cons r t2)⟩
  |trans _ _ B j =>
   intro m h;obtain⟨N,a1,b1⟩:=B h;obtain⟨J,a2,b2⟩:=j b1;exact⟨J,a2.trans a1,b2⟩
 intro m h;exact gen p.symm h
theorem empty_el{P:Int×ad->Prop}:∀e∈(#[]:Array (Int×ad)).toList,P e:=λe he=>absurd he (by simp)
theorem bXc(t:cB)(n:Nat):(t.orStandIn n).led=t.led:=by unfold cB.orStandIn;split <;> rfl
theorem addS{A:aW}{E:ad->ah->Prop}{s:ah}{a:Addr}{es:Array (Int×ad)}{ep:Nat}{t:cB}{k:Str}{x:ad}{Q:Bool->ah->Prop}(ho:s.heap.get? a=some (setOb es ep t))(hf:t.fits es.size=true)(hel:ElemsOf (strKind prog w) es.toList)
    (hpl:t.plain=true->es=#[]) (hx:(strKind prog w).is k x=true) (hn:es.size+1<=300)
    (h:∀ h' es' ep' t' added,h'.get? a=some (setOb es' ep' t') -> t'.fits es'.size=true -> ElemsOf (strKind prog w) es'.toList -> (t'.plain=true -> es'=#[]) -> cR a s.heap h' -> t'.led=t.led ->
      ((added=false/\es'=es/\∃e∈es.toList,(strKind prog w).is k e.2=true)\/(added=true/\es'.toList.Perm (((strKind prog w).hash k,x)::es.toList)/\¬ ∃e∈es.toList,(strKind prog w).is k e.2=true))->Q added {s with heap:=h'}) :
    aF (aB prog w) A (setAddHashed a x ((strKind prog w).hash k)) Q E s:=by
  obtain⟨tok,rfl⟩:=gO hx;have hb:es.size<scanBound:=by unfold scanBound; lia
  unfold setAddHashed setAddHashedIn;refine bb (aa (er ho rfl hf ?_));dsimp only;rw [byScan_of rfl hb hel];simp only [↓reduceIte];unfold setAddByScan;refine aa ?_;refine aa (cx ?_);refine aa (wpAny_setScan_of hx ho rfl hf hel ?_);cases hr:List.findIdx? (λe=>(strKind prog w).is k e.2) es.toList with
  |some j =>
    dsimp only;obtain⟨hj,hpj,_⟩:=List.findIdx?_eq_some_iff_getElem.mp hr;refine ae (ae ?_);exact h s.heap es ep t false ho hf hel hpl (jz a s.heap) rfl (.inl ⟨rfl,rfl,es.toList[j],cS hj,hpj⟩)
  |none =>
    dsimp only;have hno:¬ ∃e∈es.toList,(strKind prog w).is k e.2=true:=by
      rintro⟨e,he,hp⟩;have:=List.findIdx?_eq_none_iff.mp hr e he;rw [hp] at this; exact Bool.noConfusion this
    have hgw:∀(b:Bool) {s1:ah}{Q':Unit->ah->Prop},Q' () s1->aF (aB prog w) A (match b with|true=>rule "set.scan.the-table-gave-way"|false=>pure ()) Q' E s1 :=
      λb s1 Q' hq =>by cases b <;> first|exact ae hq|exact cx hq
    have B:=layNew_perm t es ((strKind prog w).hash k) (.str k tok);have J:=layNew_fits t es ((strKind prog w).hash k) (.str k tok);have N:(layNew t es ((strKind prog w).hash k) (.str k tok)).2.1.led=t.led:=by
      unfold layNew
      split
      · exact bXc _ _
      · rfl
    generalize hL:layNew t es ((strKind prog w).hash k) (.str k tok)=L at B J N ⊢;obtain⟨es1,t1,O,gave⟩:=L;dsimp only at B J N ⊢;rw [cm] at B;have D:es1.toList.Perm (((strKind prog w).hash k,.str k tok)::es.toList):=B.trans (List.perm_append_singleton _ _);have hel1:ElemsOf (strKind prog w) es1.toList:=(hel.push hx rfl).perm B;have hsz1:es1.size=es.size+1:=by
      have:=D.length_eq;simpa using this
    have hz1:es1.size<=sizeLine:=by rw [hsz1,bn]; lia
    refine aa (hgw _ ?_)
    have rest:∀ t2:cB,t2.fits es1.size=true -> t2.plain=false -> t2.led=t.led -> aF (aB prog w) A (do
        storeSet a es1 t2
        if (!O&&t2.tooFull)=true then do
            (match (iN t2 es1 (dF es1.size)).2.2 with|true =>rule "set.scan.the-table-gave-way"|false =>pure ())
            storeSet a (iN t2 es1 (dF es1.size)).1 (iN t2 es1 (dF es1.size)).2.1
            pure (some true)
          else pure (some true)) (λr s'=>aF (aB prog w) A (match r with|some added=>pure added|none=>setAddHashedIn a (.str k tok) ((strKind prog w).hash k) 99999) Q E s') E s:=by
      intro t2 q1 q2 q3;refine aa (wpAny_storeSet_of ho rfl ?_ hz1);have ho1:(s.heap.update a (hZ es1 t2)).get? a=some (setOb es1 (ep+1) t2):=by
        have:=cX (hZ es1 t2) ho (by rw [putSet_of _ _ rfl]; rfl)
        rw [putSet_of _ _ rfl] at this; exact this
      have hsb1:=cF s.heap a (hZ es1 t2)
      split
      · have hp:=relayAll_perm t2 es1 (dF es1.size)
        have hfr:=relayAll_fits t2 es1 (dF es1.size);have Z:(iN t2 es1 (dF es1.size)).2.1.led=t2.led/\(iN t2 es1 (dF es1.size)).2.1.plain=false:=by
          unfold iN
          split
          · rename_i t' order hq
            have : t'.led=t2.led/\t'.plain=t2.plain:=by
              unfold relaid laid at hq;cases hc:layClean (sizeAbove (dF es1.size)-1) (Array.map (·.1) es1) with
              |none =>rw [hc] at hq; cases hq
              |some ow =>rw [hc] at hq; cases hq; exact⟨rfl,rfl⟩
            dsimp only
            split
            · exact⟨this.1,this.2.trans q2⟩
            · exact⟨rfl,rfl⟩
          · exact⟨rfl,rfl⟩
        generalize hRl:iN t2 es1 (dF es1.size)=Rl at hp hfr Z ⊢;obtain⟨Y,t3,gave2⟩:=Rl;dsimp only at hp hfr Z ⊢;have hsz2:Y.size=es1.size:=by
          have:=hp.length_eq;simpa using this
        refine aa (hgw _ ?_);refine aa (wpAny_storeSet_of ho1 rfl ?_ (by rw [hsz2]; exact hz1))
        have ho2:((s.heap.update a (hZ es1 t2)).update a (hZ Y t3)).get? a=some (setOb Y (ep+1+1) t3):=by
          have:=cX (hZ Y t3) ho1 (by rw [putSet_of _ _ rfl]; rfl)
          rw [putSet_of _ _ rfl] at this; exact this
        refine ae (ae ?_);exact h _ Y _ t3 true ho2 hfr (hel1.perm hp) (λz =>by rw [Z.2] at z; cases z) (hsb1.trans (cF _ a _)) (Z.1.trans q3) (.inr ⟨rfl,hp.trans D,hno⟩)
      · refine ae (ae ?_)
        exact h _ es1 _ t2 true ho1 q1 hel1 (λz =>by rw [q2] at z; cases z) hsb1 q3 (.inr ⟨rfl,D,hno⟩)
    split
    · refine aa ?_
      rw [hashByValue_scannable 8 rfl];refine ae ?_;exact rest _ (cB.fits_plain_off J) rfl N
    · rename_i hnp
      refine aa (ae ?_);simp only [↓reduceIte];exact rest t1 J (fW.mpr hnp) N
end
section
variable{prog:aE}{w:aQ}
def strKd(prog:aE)(w:aQ):SetKd prog w Str where
 is:=λ_ k v=>(gG prog w).is k v=true
 I:=λh a es ep t=>h.get? a=some (setOb es ep t)/\t.fits es.size=true/\ElemsOf (gG prog w) es.toList/\(t.plain=true->es=#[])
 inj:=λa b=>(gG prog w).inj _ _ _ a b
 obj:=λx=>x.1
 fits:=λx=>x.2.1
 few:=λx _ _ hp=>by rw[x.2.2.2 hp];exact Nat.zero_le _
 fresh:=λho=>⟨ho,rfl,empty_el,λ_=>rfl⟩
 keepIs:=λx _=>x
 keepI:=λx e _=>⟨by rw[e];exact x.1,x.2⟩
 add:=λ{A E s a es ep t k x Q} hu hI hx hn h=>by
  obtain⟨ho,hf,hel,hpl⟩:=hI;unfold setAdd;refine bb (aa ((gG prog w).pyHash hx ?_));exact addS (s:={ s with toks:=s.toks + 1 }) ho hf hel hpl hx hn λh' es' ep' t' added h1 h2 h3 h4 h5 h6 h7=>h h' _ es' ep' t' added ⟨h1,h2,h3,h4⟩ h5 h6 (Nat.le_succ _) (by
   rcases h7 with q|⟨q1,q2,q3⟩
   ·exact .inl q
   ·exact .inr ⟨q1,⟨_,q2⟩,q3⟩)
structure Mem{κ:Type}(D:SetKd prog w κ)(h:aX)(a:Addr)(done:List κ)(led:Bool)(ks:List κ):Prop where
 ex:∃es ep t,D.I h a es ep t/\t.led=led/\bG (λ(e:Int×ad) k=>D.is h k e.2) es.toList ks
 nd:ks.Nodup
 mem:∀k,k∈ks↔k∈done
theorem Mem.size{κ:Type}{D:SetKd prog w κ}{h:aX}{a:Addr}{done:List κ}{led:Bool}{ks:List κ}(M:Mem D h a done led ks):ks.length<=done.length :=
 M.nd.length_le_of_subset λk j=>(M.mem k).mp j
theorem addM{κ:Type}[DecidableEq κ](D:SetKd prog w κ){A:aW}{E:ad->ah->Prop}{s:ah}{a:Addr}{done:List κ}{led:Bool}{ks:List κ}{k:κ}{x:ad}{Q:Bool->ah->Prop}(hu:A.units<de)(M:Mem D s.heap a done led ks)(hx:D.is s.heap k x)(hn:ks.length+1<=300)
  (h:∀h' tk ks',Mem D h' a (done++[k]) led ks'->cR a s.heap h'->bQo s.heap h'->s.toks<=tk->Q (decide (k∉ks)) {s with heap:=h',toks:=tk}) :
  aF (aB prog w) A (setAdd a x) Q E s:=by
 obtain⟨es,ep,t,h1,h2,O⟩:=M.ex;have hl:es.size=ks.length:=by have:=dW O;simpa using this
 refine D.add hu h1 hx (by lia) λh' tk J L t' added q1 q2 q3 q4 q5=>?_
 have kp:=bXa (D.obj h1) q2;have B:bG (λ(e:Int×ad) k=>D.is h' k e.2) es.toList ks:=L2.Paired.mapP O λ_ _ q=>D.keepIs q kp;have isin:(∃e∈es.toList,D.is s.heap k e.2)↔k∈ks:=by
  constructor
  ·rintro⟨e,he,q⟩;obtain⟨N,hk',q'⟩:=bQ9 O e he;rw[D.inj q q'];exact hk'
  ·intro j;obtain⟨e,he,q⟩:=aJp O k j;exact⟨e,he,q⟩
 rcases q5 with⟨r1,Z,Y⟩|⟨r1,⟨hh,Z⟩,Y⟩
 ·have j:=isin.mp Y;have q:=h h' tk ks ⟨⟨J,L,t',q1,q3.trans h2,by rw[Z];exact B⟩,M.nd,λN=>by
   rw[M.mem N,aN,aL];exact⟨.inl,λz=>z.elim id λz=>by rw[z];exact(M.mem k).mp j⟩⟩ q2 kp q4
  rw[decide_eq_false (λz=>z j)] at q;rw[r1];exact q
 ·have j:k∉ks:=λz=>Y (isin.mpr z);obtain⟨ks',p1,p2⟩:=bXb Z (R:=λ(e:Int × ad) k=>D.is h' k e.2) (m:=k::ks) (.cons (D.keepIs hx kp) B);have q:=h h' tk ks' ⟨⟨J,L,t',q1,q3.trans h2,p2⟩,p1.nodup_iff.mpr (cA.mpr ⟨j,M.nd⟩),λN=>by
   rw[p1.mem_iff,aM,aN,aL,M.mem N];exact⟨λz=>z.symm,λz=>z.symm⟩⟩ q2 kp q4
  rw[decide_eq_true j] at q;rw[r1];exact q
abbrev ledOf(w:aQ):Bool:=!(w.params.followText "set-order")
end
end ST
set_option maxHeartbeats 1000000
namespace L2
open PySem PySem.Spec PyProof.Rows
variable{α β:Type}
theorem cZ3{H:Hp}{xs:List V}{us:List ad}{bs:List Bool}(p:bG (dB H) xs bs)(r:Vals xs us){i:Nat}{v:ad}(h:us[i]?=some v):∃b,bs[i]?=some b/\v=.bool b:=by
 have hl:=r.length;have hi:i<xs.length:=by
  rcases Nat.lt_or_ge i us.length with z|z
  ·omega
  ·rw[bV z] at h;cases h
 obtain⟨b,e,D⟩:=Paired.get' p (ag hi);obtain⟨u,eu,B⟩:=r.get (ag hi);rw[h] at eu;cases eu;have j:xs[i]=V.bl b:=D;rw[j] at B;exact⟨b,e,B⟩
theorem bJ4{h h':aX}{o:Obj}(hk:∀b x,b∉[h.objs.size]->(h.push o).get? b=some x->h'.get? b=some x):∀b x,h.get? b=some x->h'.get? b=some x:=λb x e =>
 hk b x (λz=>by have:=aL.mp z;subst this;exact Nat.lt_irrefl _ (aA e)) (af _ e)
theorem cQ1(bs:List Bool):∀n,n=bs.length->((bQ n).all λi=>(bs[i]?).getD true)=bs.all id:=by
 rintro n rfl;rw[fH,b8,b8];refine⟨λh b B=>?_,λh i hi=>?_⟩
 ·obtain⟨i,hi,rfl⟩:=cg B
  have:=h i (cz.mpr hi)
  rwa [ag hi] at this
 ·have j:=cz.mp hi;rw[ag j];exact h _ (cS j)
theorem cQ2(bs:List Bool):∀n,n=bs.length->((bQ n).any λi=>(bs[i]?).getD false)=bs.any id:=by
 rintro n rfl;rw[fH,dy,dy];refine⟨λ⟨i,hi,h⟩=>?_,λ⟨b,B,h⟩=>?_⟩
 ·have j:=cz.mp hi;rw[ag j] at h;exact⟨_,cS j,h⟩
 ·obtain⟨i,hi,rfl⟩:=cg B;exact⟨i,cz.mpr hi,by rw[ag hi];exact h⟩
section
variable{X:Cx}
theorem cZ4(hc:X.calm=true):CallR X (.builtin "all") (λxs H Q=>∃x bs,xs=[x]/\dL X.K dB H x bs/\Q (.bl (bs.all id)) H):=by
 intro pins s σ H xs us Q I r h;obtain⟨x,bs,rfl,⟨a,ys,rfl,J,p⟩,q⟩:=h;obtain⟨u,rfl,rx⟩:=aXb r;cases rx;obtain⟨its,j,pl,_⟩:=I.list J;obtain⟨o,L,_⟩:=id pl.isList;refine PySem.call_all_walk (iw pl.isList ⟨_,_,_,_,_,_,λi=>(bs[i]?).getD true,rfl,PySem.Walks.list (A:=X.A.in1) (by have:=I.ok.hd hc;simp[this]) _ a (Nat.ne_of_lt (aA L)) its.toArray,⟨⟨_,aq _ rfl,rfl,rfl⟩,pl.isList.push _⟩,λi v s' Y Z O B=>?_,λh' D N=>?_⟩)
 ·obtain⟨b,e,rfl⟩:=cZ3 p j (show its[i]?=some v by simpa using O)
  simp only[e,Option.getD_some] at B;exact eh B
 ·rw[cQ1 bs _ (by rw[av,<- j.length,p.length])]
  exact⟨.bl _,H,I.kept (t':=D) (bJ4 N),rfl,q⟩
theorem cZ5(hc:X.calm=true):CallR X (.builtin "any") (λxs H Q=>∃x bs,xs=[x]/\dL X.K dB H x bs/\Q (.bl (bs.any id)) H):=by
 intro pins s σ H xs us Q I r h;obtain⟨x,bs,rfl,⟨a,ys,rfl,J,p⟩,q⟩:=h;obtain⟨u,rfl,rx⟩:=aXb r;cases rx;obtain⟨its,j,pl,_⟩:=I.list J;obtain⟨o,L,_⟩:=id pl.isList;refine PySem.call_any_walk (iw pl.isList ⟨_,_,_,_,_,_,λi=>(bs[i]?).getD false,rfl,PySem.Walks.list (A:=X.A.in1) (by have:=I.ok.hd hc;simp[this]) _ a (Nat.ne_of_lt (aA L)) its.toArray,⟨⟨_,aq _ rfl,rfl,rfl⟩,pl.isList.push _⟩,λi v s' Y Z O B=>?_,λh' D N=>?_⟩)
 ·obtain⟨b,e,rfl⟩:=cZ3 p j (show its[i]?=some v by simpa using O)
  simp only[e,Option.getD_some] at B;exact eh B
 ·rw[cQ2 bs _ (by rw[av,<- j.length,p.length])]
  exact⟨.bl _,H,I.kept (t':=D) (bJ4 N),rfl,q⟩
end
end L2
set_option maxHeartbeats 4000000
namespace L2
open PySem PySem.Spec PyProof.Rows
section
variable{prog:aE}{w:aQ}{A:aW}{E:ad->ah->Prop}{s:ah}
theorem dZs{it t:Addr}{i:Nat}{items:Array ad}{x:ad}{Q:ad->ah->Prop}(hit:s.heap.IsTupleIter it t i)(ht:s.heap.IsTuple t items)(hx:items[i]?=some x)
  (hQ:∀h',h'.IsTupleIter it t (i+1)->cR it s.heap h'->Q x {s with heap:=h'}):aF (aB prog w) A (aV (.ref it)) Q E s:=by
 obtain⟨o,j,J,hd⟩:=id hit;obtain⟨ol,B,_,nl,D⟩:=ht;have ne:¬ ((fq t==cL)=true):=du;refine aa (cK (name:=Str.ofString "__next__") hit.typeIs F.slot_tuple_iterator_next (cD F.slot_tuple_iterator_next hit.typeIs F.entry_tuple_iterator_next ?_ (F.args_tuple_iterator_next_1 _)));refine aa (m:=field (.ref it) 0) (bW j hd (x:=.ref t) rfl ?_);refine(if_neg ne).symm▸(aa (m:=field (.ref it) 1) (bW j hd (x:=.int i 0) rfl ?_));refine aa (m:=iO (.ref t)) (bT B D ?_);simp only[bN,hx];refine aa (wpAny_setField j hd (by simp) (ae ⟨x,rfl,ae (hQ _ ⟨_,cX _ j (Obj.isFreed_of_fields (Obj.data_mapFields hd _)),(Obj.cls_mapFields ..).trans J,?_⟩ (cF ..))⟩))
 rw[Obj.data_mapFields hd];simp[c9]
theorem eZb{it t:Addr}{i:Nat}{items:Array ad}{Q:ad->ah->Prop}(hh:A.handled=none)(hit:s.heap.IsTupleIter it t i)(ht:s.heap.IsTuple t items)(hx:items[i]?=none)
  (hE:∀h' e,aX.ExtBut it s.heap h'->(∃o,h'.get? e=some o/\o.cls=.type "StopIteration")->E (.ref e) {s with heap:=h'}):aF (aB prog w) A (aV (.ref it)) Q E s:=by
 obtain⟨o,B,J,hd⟩:=id hit;obtain⟨ol,j,_,nl,D⟩:=ht;have ne:¬ ((fq t==cL)=true):=du;refine aa (cK (name:=Str.ofString "__next__") hit.typeIs F.slot_tuple_iterator_next (cD F.slot_tuple_iterator_next hit.typeIs F.entry_tuple_iterator_next ?_ (F.args_tuple_iterator_next_1 _)));refine aa (m:=field (.ref it) 0) (bW B hd (x:=.ref t) rfl ?_);refine(if_neg ne).symm▸(aa (m:=field (.ref it) 1) (bW B hd (x:=.int i 0) rfl ?_));refine aa (m:=iO (.ref t)) (bT j D ?_);simp only[bN,hx];refine aa (cx (aa (wpAny_setField B hd (by simp) (aa (m:=newExc (.type "StopIteration") []) ?_))))
 simp only[newExc,newTuple];refine aa (bd (aa (m:=h8 _ _) (wpAny_of_eq (a:=cL) (by first|rfl|(simp only[h8];rfl)) (bd ?_ (by size_fits)))) (by size_fits))
 simp only[raiseNew];refine aa (wpAny_handled ?_)
 first|rw[show A.in1.handled=none from hh]|rw[hh]
 exact aa (ae (wpAny_throw (hE _ _ (((cF ..).extBut.push _).push _) ⟨_,aq _ rfl,rfl⟩)))
end
end L2
namespace HT
open PySem PyProof.Rows
def ltS(a b:Str):Bool:=decide (a.cps.toList<b.cps.toList)
def lexS:List Str->List Str->Bool
 |[],[]=>false
 |[],_::_=>true
 |_::_,[]=>false
 |x::xs,y::ys=>if x=y then lexS xs ys else ltS x y
theorem lexS_cons(x y:Str)(xs ys:List Str):lexS (x::xs) (y::ys)=if x=y then lexS xs ys else ltS x y:=rfl
theorem bZj:lexS [] []=false:=rfl
theorem lexS_nil_cons(y:Str)(ys:List Str):lexS [] (y::ys)=true:=rfl
theorem lexS_cons_nil(x:Str)(xs:List Str):lexS (x::xs) []=false:=rfl
abbrev SAre:List ad->List Str->Prop:=bG λv x=>∃t,v=.str x t
theorem SAre.len{l:List ad}{m:List Str}(h:SAre l m):l.length=m.length:=dW h
theorem dZt(A:aW)(s:ah)(a:Str)(t:Tok)(c:Str)(u:Tok):∃e,dZ A s (.str a t) (.str c u) e/\(e=true↔a=c) :=
 ⟨(a==c),h9 a t c u,by simp⟩
theorem dZu(A:aW)(s:ah)(a:Str)(t:Tok)(c:Str)(u:Tok)(prog:aE)(w:aQ)(E:ad->ah->Prop)(Q:ad->ah->Prop)(h:Q (.bool (ltS a c)) s) :
  aF (aB prog w) A (richCompare .Lt (.str a t) (.str c u)) Q E s :=
 (jr h:aF (aB prog w) A (cC .Lt (.str a t) (.str c u)) Q E s)
section
open PySem.SeqAt
open PySem.AutoSeq1 (wpAny_loadPart')
open PySem.MeetsSeq PySem.MeetsSeq2 PySem.MeetsSeq3
theorem tuple_lt_strs(l b:Addr)(items items2:Array ad)(n n2:Nat)(dd dd2:Option Addr)(sl sl2:Array (Option ad))(ns ms:List Str)(hi:SAre items.toList ns)(hj:SAre items2.toList ms) :
  Meets (bU.«tuple.__lt__» ⟨[.ref l,.ref b],[]⟩)
   (λ_ R s=>s.heap.get? l=some { cls:=.type "tuple",dict:=dd,data:=.seq items n,slots:=sl }/\s.heap.get? b=some { cls:=.type "tuple",dict:=dd2,data:=.seq items2 n2,slots:=sl2 } /\
    R (.ok (.ret (.bool (lexS ns ms)))) s) :=
 .of_wp λprog w A R s h=>by
  obtain⟨hp,g,d,Z,os⟩:=s;obtain⟨hl,hb,h⟩:=h;have f2:=AutoSeq1.sub_tuple_tuple;have z1:items.size=ns.length:=by rw[<- hi.len];simp
  have z2:items2.size=ms.length:=by rw[<- hj.len];simp
  wp_walk using wpAny_loadPart' hl,wpAny_loadPart' hb,wpAny_forIn_list _ (λrest b s'=>b.1=none/\s'=⟨hp,g,d,Z,os⟩/\∃ (vs ws:List ad) (j B:List Str),rest=vs.zip ws /\
   SAre vs j/\SAre ws B/\j.length+items2.size=B.length+items.size/\R (.ok (.ret (.bool (lexS j B)))) ⟨hp,g,d,Z,os⟩) _
  case turn =>
   rintro⟨y,x⟩ rest b s' ⟨N,rfl,vs,ws,j,B,hz,hvi,hwi,hlen,J⟩;cases hvi with
   |nil=>rw[ez] at hz;cases hz
   |@cons va a _ _ ha Y =>
    obtain⟨t,rfl⟩:=ha;cases hwi with
    |nil=>rw[dz] at hz;cases hz
    |@cons vc c _ _ hc O =>
     obtain⟨u,rfl⟩:=hc;rw[eQ] at hz;injection hz with hyx L
     injection hyx with hy hx
     subst hy hx;rw[lexS_cons] at J;simp only[cT] at hlen;obtain⟨e,he,D⟩:=dZt A.in1 ⟨hp,g,d,Z,os⟩ a t c u;refine aa (he prog w _ _ ?_);cases e with
     |true =>
      rw[if_pos (D.mp rfl)] at J
      wp_walk
      exact⟨rfl,rfl,_,_,_,_,L,Y,O,by lia,J⟩
     |false =>
      rw[if_neg (λq=>absurd (D.mpr q) du)] at J;have hri:=dZu A.in1 ⟨hp,g,d,Z,os⟩ a t c u prog w
      wp_walk using hri
      exact⟨_,rfl,by simpa using J⟩
  case fin =>
   rintro⟨b1,b2⟩ s' ⟨N,rfl,vs,ws,j,B,hz,hvi,hwi,hlen,J⟩;simp only at N;subst N;have hv:lexS j B=decide (items.size<items2.size):=by
    cases hvi with
    |nil =>
     cases hwi with
     |nil =>
      simp only[dM] at hlen;rw[bZj];exact(decide_eq_false (by lia)).symm
     |cons hc hw =>
      simp only[dM,cT] at hlen;rw[lexS_nil_cons];exact(decide_eq_true (by lia)).symm
    |cons ha hv =>
     cases hwi with
     |nil =>
      simp only[dM,cT] at hlen;rw[lexS_cons_nil];exact(decide_eq_false (by lia)).symm
     |cons hc hw =>
      rw[eQ] at hz;cases hz
   rw[hv] at J
   wp_walk
   exact⟨_,rfl,by simpa [bU.Tuple.tupleCompareSizes] using J⟩
  case h =>
   exact⟨rfl,rfl,items.toList,items2.toList,ns,ms,rfl,hi,hj,by lia,h⟩
end
section
variable{prog:aE}{w:aQ}{A:aW}{E:ad->ah->Prop}{s:ah}
theorem lt_tupStrs{l b:Addr}{items items2:Array ad}{ns ms:List Str}{Q:ad->ah->Prop}(hl:IsTup s.heap l items)(hb:IsTup s.heap b items2)(hi:SAre items.toList ns)(hj:SAre items2.toList ms)
  (hu:A.units<de) (h:Q (.bool (lexS ns ms)) s):aF (aB prog w) A (cC .Lt (.ref l) (.ref b)) Q E s:=by
 obtain⟨⟨cls,dd,data,sl⟩,L,N,n,hd⟩:=id hl;obtain⟨⟨O,J,data2,D⟩,j,B,Y,hd2⟩:=id hb;simp only at N hd B hd2;subst N hd B hd2;exact richCompare_meets_room (op:=.Lt) ⟨_,L,rfl⟩ ⟨_,j,rfl⟩ f9 jc (iP _ _) (tuple_lt_strs l b items items2 n Y dd J sl D ns ms hi hj)
  ⟨L,j,show gp (lexS ns ms)≠ad.notImplemented/\Q (.bool (lexS ns ms)) s from⟨(λx=>nomatch x),h⟩⟩ hu
end
end HT
namespace L2
open PySem PySem.Spec PyProof.Rows
theorem bQp{H:Hp}:∀{xs:List V}{us:List ad}{ds:List Str},bG (dS H) xs ds->Vals xs us->HT.SAre us ds
 |_,_,_,.nil,.nil=>.nil
 |_,_,_,.cons p q,.cons r t=>by
  cases p;exact .cons r (bQp q t)
def rLtS(K:Fg):R2:=λx y H Q=>∃d e,dT K dS H x d/\dT K dS H y e/\Q (.bl (HT.lexS d e)) H
theorem eZc{X:Cx}(hu:X.A.units<de):OpR X (cC .Lt) (rLtS X.K):=by
 intro pins s σ H x y v u Q I rx ry h;obtain⟨d,e,⟨a,xs,rfl,Y,L⟩,⟨b,ys,rfl,O,J⟩,q⟩:=h;cases rx;cases ry;obtain⟨its,D,N,_⟩:=I.tuple Y;obtain⟨j,B,p2,_⟩:=I.tuple O;exact HT.lt_tupStrs N p2 (bQp L D) (bQp J B) hu ⟨.bl (HT.lexS d e),H,I,rfl,q⟩
end L2
set_option maxHeartbeats 1000000
namespace L2
open PySem PySem.Spec PyProof.Rows
variable{α β γ:Type}
theorem nd_(l:List Str)(h:l.Nodup:=by decide +kernel):l.Nodup:=h
section
variable{X:Cx}{K:Fg}{tg:Expr}{a:Expr}{ta:TE}
theorem dZv(hK:X.K=K:=by rfl):SlR X (rSlT K):=hK▸eZ1
theorem cJg(hK:X.K=K:=by rfl):SlR X (rSlL K):=hK▸dZo
theorem cJh(hK:X.K=K:=by rfl):OpR X (ef .Add) (dZm K):=hK▸dZn
theorem bXd(hK:X.K=K:=by rfl):CallR X (.type "tuple") (λxs H Q=>∃p ys,xs=[.ref p]/\((SqL K H p ys/\∀l,H l=none->Q (.ref l) (upd H l (.tup ys)))\/(SqT K H p ys/\Q (.ref p) H))):=hK▸bQl
theorem cQ3(hK:X.K=K:=by rfl):CallR X (.type "list") (λxs H Q=>∃p ys,xs=[.ref p]/\(SqL K H p ys\/SqT K H p ys)/\∀l,H l=none->Q (.ref l) (upd H l (.lst ys))):=hK▸call_list_of
theorem cZ6(hK:X.K=K:=by rfl)(hc:X.calm=true:=by rfl):CallR X (.builtin "all") (λxs H Q=>∃x bs,xs=[x]/\dL K dB H x bs/\Q (.bl (bs.all id)) H):=hK▸cZ4 hc
theorem cZ7(hK:X.K=K:=by rfl)(hc:X.calm=true:=by rfl):CallR X (.builtin "any") (λxs H Q=>∃x bs,xs=[x]/\dL K dB H x bs/\Q (.bl (bs.any id)) H):=hK▸cZ5 hc
theorem dZw(hu:X.A.units<de)(hK:X.K=K:=by rfl):OpR X (cC .Lt) (rLtS K):=hK▸eZc hu
theorem cZ8(ha:PE X a ta)(he:∀whole,isTrue a X.env whole=(do let v <- whole;fF a.pos;ft [v] (truthy v)))(hK:X.K=K:=by rfl):PT X a (fun σ H Q=>ta σ H λx H'=>∃k,TruV K x H' k/\Q k H'):=by subst hK;exact cJ4 ha he
end
end L2
set_option maxHeartbeats 4000000
namespace KS
open PySem PySem.W PyProof.Rows
variable{lt:Nat->Nat->Bool}{n:Nat}
end KS
set_option maxHeartbeats 1000000
namespace ST
open PySem PySem.SetTable PySem.Spec PyProof.Rows
theorem bQ3:entryFor table "set.__iter__"=some bU.«frozenset.__iter__»:=entryFor_alias (id':="frozenset.__iter__") (by kernel_rfl) rfl (by decide +kernel) (by kernel_rfl)
theorem slot_setit_next:Slot "set_iterator" "__next__" "set_iterator.__next__" :=
 .of (owner:="set_iterator") (n:="__next__") (by rw[gN,eZ];kernel_rfl) (by decide +kernel) (by decide +kernel) (by decide +kernel)
  (by first|exact .inl (by decide +kernel)|exact .inr (by decide +kernel)) (by rw[isSubtype_type];kernel_rfl)
theorem aJ8:entryFor table "set_iterator.__next__"=some bU.«set_iterator.__next__»:=entryFor_of_tree (by kernel_rfl)
theorem aJq(a:ad):argsOk "set_iterator.__next__" ⟨[a],[]⟩:=by unfold argsOk;kernel_rfl
theorem cJi:ja (.type "set") "__len__"=pure (some (.builtin "set.__len__")):=by rw[gN,eZ];kernel_rfl
section
variable{prog:aE}{w:aQ}{A:aW}{E:ad->ah->Prop}{s:ah}
theorem dZx{p:Addr}{es:Array (Int×ad)}{ep:Nat}{t:cB}{Q:Bool->ah->Prop}(ho:s.heap.get? p=some (setOb es ep t))(h:Q false s):aF (aB prog w) A (gR (.ref p)) Q E s:=by
 have j:s.TypeIs (.ref p) "set":=⟨_,ho,rfl⟩;unfold gR;refine aa (wpAny_specialOf j cJi ?_);dsimp only;have e1:splitId "set.__len__"=some ("set", "__len__"):=by decide +kernel
 rw[e1];dsimp only;refine aa (iQ (b:=true) j (by rw[isSubtype_type];kernel_rfl) ?_)
 rw[if_neg (show ¬ ((!true)=true) by decide)]
 refine fJ (λB=>?_) (λB=>absurd (by decide +kernel) B)
 refine aa (fw j ?_);exact ae h
theorem bQa{α:Type}{l:List α}{i:Nat}(h:i<l.length):(l[i]::l.eraseIdx i).Perm l:=by
 have e:l=l.take i++l[i]::l.drop (i+1):=by
  rw[<- cv h,bo]
 rw[List.eraseIdx_eq_take_drop_succ];refine gv.symm.trans ?_;rw[<- e]
theorem dZy{n:Nat}{Q:Nat->ah->Prop}(hn:n≠0)(h:∀i,i<n->Q i {s with drawn:=s.drawn.bump .order}):aF (aB prog w) A (choose .order n) Q E s:=fun Γ p hΓ=>by
 show Sem.wp _ _ (.choose .order n .pure) _ _ _ _;rw[Sem.wp_choose];exact⟨hn,h _ (Nat.mod_lt _ (Nat.pos_of_ne_zero hn))⟩
theorem eZd{α:Type}:∀(n:Nat) (xs:List α) {s:ah}{Q:List α->ah->Prop},xs.length=n->(∀ys d,ys.Perm xs->Q ys {s with drawn:=d})->aF (aB prog w) A (drawOrder n xs) Q E s
 |0,xs,s,Q,hl,h=>by
  have e:xs=[]:=fO.mp hl;subst e;unfold drawOrder;exact ae (h [] s.drawn (dE _))
 |n+1,xs,s,Q,hl,h=>by
  cases xs with
  |nil=>cases hl
  |cons x r =>
   unfold drawOrder;refine aa ?_;have j:(x::r).length≠0:=by simp
   refine dZy j λi hi=>?_;have D:(x::r)[i]?=some (x::r)[i]:=ag hi;rw[D];dsimp only;refine aa (eZd n ((x::r).eraseIdx i) (s:={s with drawn:=s.drawn.bump .order}) (by rw[ic hi];simp at hl ⊢;omega) λys d B=>?_)
   refine ae (h _ d ?_);refine(B.cons _).trans ?_;exact bQa hi
theorem bZk{α:Type}(next:Nat->Nat):∀(fuel k:Nat) (left:List α) (out:Array α),left.length=fuel->(jA next fuel k left out).toList.Perm (out.toList++left)
 |0,k,left,out,hl=>by
  have e:left=[]:=fO.mp hl;subst e;unfold jA;rw[br]
 |fuel+1,k,left,out,hl=>by
  unfold jA;have hi:next k%left.length<left.length:=Nat.mod_lt _ (by omega)
  rw[ag hi];dsimp only;refine(bZk next fuel (k+1) _ _ (by rw[ic hi];omega)).trans ?_
  rw[cm,aY];exact d4 _ (bQa hi)
theorem bQ4{α:Type}(next:Nat->Nat)(xs:Array α):(gX next xs).toList.Perm xs.toList:=by
 have:=bZk next xs.size 0 xs.toList #[] (by simp)
 simpa [gX] using this
def itOb(first:ad)(i:Nat)(p:Addr)(n ep:Nat):Obj:={cls:=.type "set_iterator",dict:=none,data:=.fields #[first,.int i 0,.ref p,.int n 0,.int ep 0],slots:=#[]}
theorem dZz{I:Addr}{Q:Option ad->ah->Prop}{s:ah}(hh:A.in1.handled=none)(h:∀h',(∀b o,s.heap.get? b=some o->h'.get? b=some o)->Q none {s with heap:=h'}) :
  aF (aB prog w) A.in1 (newExc (.type "StopIteration") []>>=λe=>(raiseNew e:Sem Fin)) (λfin s'=>∃r,fin=.done (.ret r)/\aF (aB prog w) A (pure (some r)) Q E s') (λe s'=>aF (aB prog w) A (do if <- isInstance e (.type "StopIteration") then pure none else throw e) Q E s') s:=by
 refine aa ?_;simp only[newExc,newTuple];refine aa (bd ?_ (by size_fits))
 refine aa (m:=h8 _ _) (wpAny_of_eq (a:=cL) (by first|rfl|(simp only[h8];rfl)) ?_)
 refine bd ?_ (by size_fits)
 simp only[raiseNew];refine aa (wpAny_handled ?_);rw[hh];refine aa (ae (wpAny_throw ?_));refine aa (iQ (T:="StopIteration") (b:=true) ⟨_,aq _ rfl,rfl⟩ isSubtype_stop ?_);exact ae (h _ λb o e=>af _ (af _ e))
theorem aXs{I p:Addr}{es:Array (Int×ad)}{ep:Nat}{t:cB}{first:ad}{i:Nat}{Q:Option ad->ah->Prop}(hp:s.heap.get? p=some (setOb es ep t))(hf:t.fits es.size=true)(hI:s.heap.get? I=some (itOb first i p es.size ep))
  (h:aF (aB prog w) A.in1 (if let .int slot _:=first then do
    match <- setNext p slot.toNat (i:Int).toNat (ep:Int).toNat with
    |some (x,next)=>do
     jk (.ref I) 0 (c9 next)
     jk (.ref I) 1 (c9 ((i:Int)+1))
     ret x
    |none=>do jk (.ref I) 2 .none;raiseNew (<- newExc (.type "StopIteration") [])
   else do
    let some places <- iO first|gJ "internal:set_iterator"
    match places[(i:Int).toNat]? with
    |some (.int place _)=>do
     let x <- setNextDrawn p place.toNat (ep:Int).toNat
     jk (.ref I) 1 (c9 ((i:Int)+1))
     ret x
    |some _=>gJ "internal:set_iterator"
    |none=>do jk (.ref I) 0 (c9 0);jk (.ref I) 2 .none;raiseNew (<- newExc (.type "StopIteration") []))
   (λfin s'=>∃r,fin=.done (.ret r)/\aF (aB prog w) A (pure (some r)) Q E s') (λe s'=>aF (aB prog w) A (do if <- isInstance e (.type "StopIteration") then pure none else throw e) Q E s') s) :
  aF (aB prog w) A (eL (.ref I)) Q E s:=by
 have j:s.TypeIs (.ref I) "set_iterator":=⟨_,hI,rfl⟩;unfold eL;refine aa (iD (cK (name:=Str.ofString "__next__") j slot_setit_next
  (cD slot_setit_next j aJ8 ?_ (aJq _))))
 unfold bU.«set_iterator.__next__» slotArgs;simp only[iR,Bool.not_true,bS,↓reduceIte,bind_assoc,dM,bne_self_eq_false];refine aa (ae ?_)
 try dsimp only
 refine aa (wpAny_fieldsOf hI rfl ?_);dsimp only;refine aa (wpAny_setEntries_of hp rfl hf ?_);rw[if_neg (by simp)]
 exact h
structure Gives(prog:aE)(w:aQ)(A:aW)(I:Addr)(fp:List Addr)(vals:List ad)(St:Nat->aX->Prop):Prop where
 mem:I∈fp
 frame:∀i h h',St i h->(∀b∈fp,∀o,h.get? b=some o->h'.get? b=some o)->St i h'
 item:∀(i:Nat) (s:ah) (v:ad) (Q:Option ad->ah->Prop) (E:ad->ah->Prop),vals[i]?=some v->St i s.heap ->
  (∀h',St (i+1) h'->(∀b o,b≠I->s.heap.get? b=some o->h'.get? b=some o)->Q (some v) {s with heap:=h'})->aF (aB prog w) A (eL (.ref I)) Q E s
 done:∀(s:ah) (Q:Option ad->ah->Prop) (E:ad->ah->Prop),St vals.length s.heap ->
  (∀h',(∀b o,b≠I->s.heap.get? b=some o->h'.get? b=some o)->Q none {s with heap:=h'})->aF (aB prog w) A (eL (.ref I)) Q E s
theorem bJ5{p:Addr}{es:Array (Int×ad)}{ep i:Nat}{t:cB}{Q:Option (ad×Nat)->ah->Prop}(hp:s.heap.get? p=some (setOb es ep t))(hf:t.fits es.size=true)(hw:w.params.followText "set-order"=true)
  (h:Q (((gX (w.params.setOrder p ep) es)[i]?).map λe=>(e.2,0)) s):aF (aB prog w) A (setNext p (0:Int).toNat (i:Int).toNat (ep:Int).toNat) Q E s:=by
 unfold setNext;refine aa (er hp rfl hf ?_);dsimp only;unfold jd;refine aa (aa (dw (ae ?_)));have j:(aB prog w).w.params.followText "set-order"=true:=hw;rw[j,if_pos rfl,if_neg (by simp)]
 unfold setWalk;refine aa (aa (er hp rfl hf ?_));dsimp only;unfold jd;refine aa (aa (dw (ae ?_)));rw[j,if_pos rfl];refine aa (dw ?_);refine ae (ae ?_);rw[bN];exact h
theorem eZe{p I T:Addr}{es:Array (Int×ad)}{ep:Nat}{t:cB}{vals:List ad}{places:Array ad}(hh:A.in1.handled=none)(hTI:T≠I)(hpI:p≠I)(hl:places.size=vals.length)
  (hpl:∀(j:Nat) (pl:ad),places[j]?=some pl->∃q:Nat,pl=iH (q:Int) 0/\∃e,es[q]?=some e/\vals[j]?=some e.2) :
  Gives prog w A I [I,p,T] vals (λi h=>h.get? p=some (setOb es ep t)/\t.fits es.size=true/\h.get? I=some (itOb (.ref T) i p es.size ep)/\∃o c,h.get? T=some o/\o.data=.seq places c) where
 mem:=by simp
 frame:=λi h h' st k=>by
  obtain⟨h1,h2,B,o,c,J,D⟩:=st;exact⟨k p (by simp) _ h1,h2,k I (by simp) _ B,o,c,k T (by simp) _ J,D⟩
 item:=λi s v Q E Z st N=>by
  obtain⟨h1,h2,B,o,c,J,D⟩:=st;refine aXs h1 h2 B ?_;dsimp only;refine aa (bT J D ?_);dsimp only;have hi:i<places.size:=by rw[hl];exact(aD.mp Z).1
  obtain⟨q,e1,e,e2,e3⟩:=hpl i places[i] (by simp[hi])
  have Y:places[(i:Int).toNat]?=some (iH (q:Int) 0):=by rw[bN,<- e1];simp[hi]
  rw[Y];dsimp only;have ev:e.2=v:=by rw[Z] at e3;exact(aR e3).symm
  refine aa ?_;unfold setNextDrawn;refine aa (er h1 rfl h2 ?_);dsimp only;rw[if_neg (by simp),bN,e2]
  dsimp only;refine ae ?_;refine aa (bj B (by show 1<5;decide) λh' g1 g2=>?_)
  rw[ev];refine ae ⟨v,rfl,ae (N h' ⟨?_,h2,?_,o,c,?_,D⟩ λb o' L e=>(g2.2 b L).trans e)⟩
  ·exact(g2.2 p hpI).trans h1
  ·exact g1
  ·exact(g2.2 T hTI).trans J
 done:=λs Q E st N=>by
  obtain⟨h1,h2,B,o,c,J,D⟩:=st;refine aXs h1 h2 B ?_;dsimp only;refine aa (bT J D ?_);dsimp only;have Y:places[(vals.length:Int).toNat]?=none:=by rw[bN,<- hl];simp
  rw[Y];dsimp only;refine aa (bj B (by show 0<5;decide) λh' g1 g2=>?_)
  refine aa (bj g1 (by show 2<5;decide) λh'' g3 g4=>?_)
  exact dZz (I:=I) hh λO k=>N O λb o' L e=>k b o' ((g4.2 b L).trans ((g2.2 b L).trans e))
theorem eZf{p I:Addr}{es:Array (Int×ad)}{ep:Nat}{t:cB}{vals:List ad}(hh:A.in1.handled=none)(hpI:p≠I)(hw:w.params.followText "set-order"=true)(hv:vals=(gX (w.params.setOrder p ep) es).toList.map (·.2)) :
  Gives prog w A I [I,p] vals (λi h=>h.get? p=some (setOb es ep t)/\t.fits es.size=true/\h.get? I=some (itOb (.int 0 0) i p es.size ep)) where
 mem:=by simp
 frame:=λi h h' st k=>by
  obtain⟨h1,h2,j⟩:=st;exact⟨k p (by simp) _ h1,h2,k I (by simp) _ j⟩
 item:=λi s v Q E hv' st L=>by
  obtain⟨h1,h2,j⟩:=st;refine aXs h1 h2 j ?_;dsimp only;refine aa (bJ5 h1 h2 hw ?_);have O:((gX (w.params.setOrder p ep) es)[i]?).map (λe=>(e.2,0))=some (v,0):=by
   rw[hv,aK,aU] at hv';cases q:(gX (w.params.setOrder p ep) es)[i]? with
   |none=>rw[q] at hv';cases hv'
   |some e=>rw[q] at hv';cases hv';rfl
  rw[O];dsimp only;refine aa (bj j (by show 0<5;decide) λh' g1 g2=>?_)
  refine aa (bj g1 (by show 1<5;decide) λB g3 J=>?_)
  refine ae ⟨v,rfl,ae (L B ⟨?_,h2,g3⟩ λb o' D e=>(J.2 b D).trans ((g2.2 b D).trans e))⟩;exact(J.2 p hpI).trans ((g2.2 p hpI).trans h1)
 done:=λs Q E st L=>by
  obtain⟨h1,h2,j⟩:=st;refine aXs h1 h2 j ?_;dsimp only;refine aa (bJ5 h1 h2 hw ?_);have O:(gX (w.params.setOrder p ep) es)[vals.length]?=none:=by
   rw[hv];simp
  rw[O];dsimp only[Option.map];refine aa (bj j (by show 2<5;decide) λB g3 J=>?_)
  exact dZz (I:=I) hh λN k=>L N λb o' D e=>k b o' ((J.2 b D).trans e)
end
end ST
set_option maxHeartbeats 4000000
namespace ST
open PySem PySem.SetTable PySem.Spec PyProof.Rows
section
variable{prog:aE}{w:aQ}{A:aW}{E:ad->ah->Prop}{s:ah}
theorem bZl{p:Addr}{es:Array (Int×ad)}{ep i sl:Nat}{t:cB}{Q:Option (ad×Nat)->ah->Prop}(hp:s.heap.get? p=some (setOb es ep t))(hf:t.fits es.size=true)(hw:w.params.followText "set-order"=false)(hled:t.led=true)(h1:es.size<=1)
  (h:Q (match es[below t.place sl]?,t.place[below t.place sl]? with|some (_,x),some j=>some (x,j+1)|_,_=>none) s):aF (aB prog w) A (setNext p (sl:Int).toNat (i:Int).toNat (ep:Int).toNat) Q E s:=by
 unfold setNext;refine aa (er hp rfl hf ?_);dsimp only;unfold jd;refine aa (aa (dw (ae ?_)));have B:(aB prog w).w.params.followText "set-order"=false:=hw;rw[B,if_neg du];refine fJ (λJ=>?_) (λ_=>?_)
 ·have D:(!t.plain&&decide (es.size>1))=true:=J;simp only[bL,decide_eq_true_eq] at D;lia
 ·refine aa ?_;show aF _ _ (if (!t.led && !es.isEmpty)=true then gJ "set:maker-not-led" else pure ()) _ _ _
  rw[hled,if_neg (by simp)]
  refine ae ?_;refine ae ?_;rw[bN];exact h
theorem bZm(j sl:Nat):below #[j] sl=if j<sl then 1 else 0:=by
 unfold below;simp only[av,List.length_singleton];unfold below.go;simp only[Nat.lt_irrefl,if_true,Nat.zero_lt_one]
 split
 ·rename_i h;have h':j<sl:=by simpa using h
  rw[if_pos h'];rfl
 ·rename_i h;have h':¬ j<sl:=by simpa using h
  rw[if_neg h'];rfl
theorem bJ6{es:Array (Int×ad)}{t:cB}(hf:t.fits es.size=true):t.place.size=es.size:=by
 unfold cB.fits at hf;simp only[bL,beq_iff_eq] at hf;exact hf.1
theorem eZg{p I:Addr}{es:Array (Int×ad)}{ep:Nat}{t:cB}{vals:List ad}(hh:A.in1.handled=none)(hpI:p≠I)(hw:w.params.followText "set-order"=false)(hled:t.led=true)(h1s:es.size<=1)(hv:vals=es.toList.map (·.2)) :
  Gives prog w A I [I,p] vals (λi h=>h.get? p=some (setOb es ep t)/\t.fits es.size=true/\∃sl:Nat,h.get? I=some (itOb (.int sl 0) i p es.size ep)/\(i=0->sl=0)/\(i=1->∀j,t.place=#[j]->sl=j+1)) where
 mem:=by simp
 frame:=λi h h' st k=>by
  obtain⟨h1,h2,sl,D,Y⟩:=st;exact⟨k p (by simp) _ h1,h2,sl,k I (by simp) _ D,Y⟩
 item:=λi s v Q E B st hQ=>by
  obtain⟨h1,h2,sl,D,Y,h5⟩:=st;refine aXs h1 h2 D ?_;dsimp only;refine aa (bZl h1 h2 hw hled h1s ?_);have hi:i<es.size:=by
   have:=(aD.mp B).1
   rw[hv] at this;simpa using this
  have i0:i=0:=by lia
  subst i0;have sl0:=Y rfl;subst sl0;have hps:=bJ6 h2;obtain⟨j,N⟩:∃j,t.place=#[j]:=by
   have:t.place.size=1:=by lia
   exact⟨t.place[0],Array.ext (by simp[this]) λk hk1 hk2=>by
    have:k=0:=by lia
    subst this;simp⟩
  rw[N,bZm,if_neg (Nat.not_lt_zero _)];have ee:es[0]?=some es[0]:=by simp[hi]
  have e0:es[0].2=v:=by
   rw[hv,aK,aU,ee] at B;exact aR B
  have e1:es[0]?=some (es[0].1,v):=by rw[ee,<- e0]
  have e2:(#[j]:Array Nat)[0]?=some j:=rfl;rw[e1,e2];dsimp only;refine aa (bj D (by show 0<5;decide) λh' g1 g2=>?_)
  refine aa (bj g1 (by show 1<5;decide) λJ g3 Z=>?_)
  refine ae ⟨v,rfl,ae (hQ J ⟨?_,h2,j+1,g3,(λz=>nomatch z),λ_ j' L=>?_⟩ λb o' O e=>(Z.2 b O).trans ((g2.2 b O).trans e))⟩
  ·exact(Z.2 p hpI).trans ((g2.2 p hpI).trans h1)
  ·rw[N] at L
   have:=congrArg (λa:Array Nat=>a[0]?) L
   simp at this;rw[this]
 done:=λs Q E st hQ=>by
  obtain⟨h1,h2,sl,D,Y,h5⟩:=st;refine aXs h1 h2 D ?_;dsimp only;refine aa (bZl h1 h2 hw hled h1s ?_);have hlen:vals.length=es.size:=by rw[hv];simp
  have hps:=bJ6 h2;have nn:es[below t.place sl]?=none:=by
   by_cases c:es.size=0
   ·simp[c]
   ·have c1:es.size=1:=by lia
    obtain⟨j,N⟩:∃j,t.place=#[j]:=by
     have:t.place.size=1:=by lia
     exact⟨t.place[0],Array.ext (by simp[this]) λk hk1 hk2=>by
      have:k=0:=by lia
      subst this;simp⟩
    have:=h5 (by lia) j N
    rw[N,bZm,if_pos (by lia)]
    simp[c1]
  rw[nn];dsimp only;refine aa (bj D (by show 2<5;decide) λJ g3 Z=>?_)
  exact dZz (I:=I) hh λh3' k=>hQ h3' λb o' O e=>k b o' ((Z.2 b O).trans e)
theorem fQ8{p:Addr}{es:Array (Int×ad)}{ep:Nat}{t:cB}{Q:ad->ah->Prop}(hh:A.in1.handled=none)(hp:s.heap.get? p=some (setOb es ep t))(hf:t.fits es.size=true)(hled:t.led=ledOf w)(hpl:t.plain=true->es.size<=1)(hn:es.size<=300)
  (h:∀I fp vals St h' d,vals.Perm (es.toList.map (·.2))->Gives prog w A I fp vals St->St 0 h'->s.heap.objs.size<=I->(∀b∈fp,b=p\/s.heap.objs.size<=b)->(∀b o,s.heap.get? b=some o->h'.get? b=some o)->Q (.ref I) {s with heap:=h',drawn:=d}) :
  aF (aB prog w) A (pyIter (.ref p)) Q E s:=by
 have hT:s.TypeIs (.ref p) "set":=⟨_,hp,rfl⟩;have Z:p<s.heap.objs.size:=aA hp;refine wpAny_pyIter_slot hT jj (cD jj hT bQ3 ?_ (PySem.F.args_set_iter_1 _));unfold bU.«frozenset.__iter__» bU.Frozenset.slot0 slotArgs;simp only[iR,Bool.not_true,bS,↓reduceIte,bind_assoc,dM,bne_self_eq_false];unfold iE bU.Frozenset.sizeOf;refine aa (ae ?_)
 try dsimp only
 refine aa (ae ?_);refine aa (aa (wpAny_setEntries_of hp rfl hf (ae ?_)));unfold setDrawn jd;refine aa (aa (er hp rfl hf ?_));dsimp only;refine aa (aa (dw (ae ?_)));refine ae ?_;have fin:∀(first:ad) (h1:aX) (d:Drawn) (Q':Fin->ah->Prop),h1.get? p=some (setOb es ep t) ->
   Q' (.done (.ret (.ref h1.objs.size))) {s with heap:=h1.push (itOb first 0 p es.size ep),drawn:=d} ->
   aF (aB prog w) A.in1 (do
    let e <- setEpoch p
    let v <- newFields "set_iterator" [first,c9 0,.ref p,c9 es.size,c9 e]
    ret v) Q' E {s with heap:=h1,drawn:=d}:=by
  intro first h1 d Q' ho hQ';refine aa (wpAny_setEpoch_of (s:={s with heap:=h1,drawn:=d}) ho rfl hf ?_)
  exact aa (bd (ae hQ'))
 refine fJ (λhc=>?_) (λhc=>?_)
 ·refine aa (eZd es.size (bQ es.size) (by simp) λys d B=>?_)
  have yl:ys.length=es.size:=by have:=B.length_eq;simpa using this
  have yr:∀q∈ys,q<es.size:=λq hq=>cz.mp (B.mem_iff.mp hq);obtain⟨f1,f2⟩:=cZ2 (l:=ys) (f:=λq=>(es[q]?).map (·.2)) (λq hq=>by have:=yr q hq;simp[this])
  refine aa (bd ?_ (by show(ys.map λ(i:Nat)=>c9 i).toArray.size<=sizeLine;rw[av,ak,yl,bn];lia))
  generalize N:s.heap.push _=h1;have D:h1.objs.size=s.heap.objs.size+1:=by rw[<- N,cZ]
  have old:∀b o,s.heap.get? b=some o->h1.get? b=some o:=λb o e=>by rw[<- N];exact af _ e
  have hTup:h1.get? s.heap.objs.size=some {cls:=.type "tuple",dict:=none,data:=.seq (ys.map λ(i:Nat)=>c9 i).toArray}:=by rw[<- N];exact aq _ rfl
  refine fin (.ref s.heap.objs.size) h1 d _ (old p _ hp) ?_;have G:=eZe (prog:=prog) (w:=w) (A:=A) (p:=p) (I:=h1.objs.size) (T:=s.heap.objs.size) (es:=es) (ep:=ep) (t:=t) (vals:=ys.filterMap λq=>(es[q]?).map (·.2)) (places:=(ys.map λ(i:Nat)=>c9 i).toArray) hh (by rw[D];exact Nat.ne_of_lt (Nat.lt_succ_self _)) (by rw[D];exact Nat.ne_of_lt (Nat.lt_succ_of_lt Z)) (by simp[f1]) (λj pl hj=>by
   have hj':(ys.map λ(i:Nat)=>c9 i)[j]?=some pl:=by simpa using hj
   rw[aK] at hj';cases q:ys[j]? with
   |none=>rw[q] at hj';cases hj'
   |some z =>
    rw[q] at hj';have hz:=yr z (ao q);refine⟨z,(aR hj').symm,es[z],by simp[hz],?_⟩
    rw[f2 j,q];simp[hz])
  refine⟨_,rfl, "set_iterator",_,⟨_,aq _ rfl,rfl⟩,slot_setit_next.lookup,h _ _ _ _ _ d ?_ G ⟨af _ (old p _ hp),hf,aq _ rfl,_,_,af _ hTup,rfl⟩ (by rw[D];exact Nat.le_succ _) (λb hb=>?_) λb o e=>af _ (old b o e)⟩
  ·refine(B.filterMap _).trans ?_;have e:(bQ es.size).filterMap (λq=>(es[q]?).map (·.2))=es.toList.map (·.2):=by
    rw[<- cJf es,List.map_filterMap]
   rw[e]
  ·simp only[aM,gu,or_false] at hb;rcases hb with e|e|e
   ·right;rw[e,D];exact Nat.le_succ _
   ·exact .inl e
   ·right;rw[e];exact Nat.le_refl _
 ·refine aa (ae ?_);refine fin (c9 0) s.heap s.drawn _ hp ?_;have O:p≠s.heap.objs.size:=Nat.ne_of_lt Z;have small:∀b∈[s.heap.objs.size,p],b=p\/s.heap.objs.size<=b:=λb hb=>by
   simp only[aM,gu,or_false] at hb;rcases hb with e|e
   ·right;rw[e];exact Nat.le_refl _
   ·exact .inl e
  by_cases hw:w.params.followText "set-order"=true
  ·have G:=eZf (prog:=prog) (w:=w) (A:=A) (p:=p) (I:=s.heap.objs.size) (es:=es) (ep:=ep) (t:=t) hh O hw rfl;exact⟨_,rfl, "set_iterator",_,⟨_,aq _ rfl,rfl⟩,slot_setit_next.lookup,h _ _ _ _ _ s.drawn ((bQ4 _ _).map _) G ⟨af _ hp,hf,aq _ rfl⟩ (Nat.le_refl _) small λb o e=>af _ e⟩
  ·have L:w.params.followText "set-order"=false:=fW.mpr hw;have h1:es.size<=1:=by
    have J:¬ ((!(w.params.followText "set-order")&&(!t.plain&&decide (es.size>1)))=true):=hc;rw[L] at J
    by_cases Y:t.plain=true
    ·exact hpl Y
    ·have:t.plain=false:=fW.mpr Y
     rw[this] at J;simp at J;exact J
   have hl':t.led=true:=by rw[hled];show(!(w.params.followText "set-order"))=true;rw[L];rfl
   have G:=eZg (prog:=prog) (w:=w) (A:=A) (p:=p) (I:=s.heap.objs.size) (es:=es) (ep:=ep) (t:=t) hh O L hl' h1 rfl;exact⟨_,rfl, "set_iterator",_,⟨_,aq _ rfl,rfl⟩,slot_setit_next.lookup,h _ _ _ _ _ s.drawn (dE _) G ⟨af _ hp,hf,0,aq _ rfl,λ_=>rfl,(λz=>nomatch z)⟩ (Nat.le_refl _) small λb o e=>af _ e⟩
theorem cJj{I S:Addr}{fp:List Addr}{vals:List ad}{St:Nat->aX->Prop}{R:Result->ah->Prop}(G:Gives prog w A.in1 I fp vals St)(hn:vals.length<=300)(hSf:S∉fp)(res:ad) :
  ∀(k i:Nat) (s:ah) (c:Nat),vals.length-i=k->i<=vals.length->St i s.heap->s.heap.get? S=some {cls:=.type "list",dict:=none,data:=.seq (vals.take i).toArray c,slots:=#[]} ->
  (∀h' c',(∀b o,b≠S->b≠I->s.heap.get? b=some o->h'.get? b=some o)->h'.get? S=some {cls:=.type "list",dict:=none,data:=.seq vals.toArray c',slots:=#[]}->R (.ok (.ret res)) {s with heap:=h'}) ->
  eN (aB prog w) A (.builtin "list.extend.loop" ⟨[.ref S,.ref I,res],[]⟩) R s:=by
 have O:S≠I:=λe=>hSf (e▸G.mem);intro k
 induction k with
 |zero =>
  intro i s c hk hi j hS hR;have hin:i=vals.length:=by lia
  subst hin;refine cQ im ?_;rw[bJ d6 _];show aF _ A.in1 (eL (.ref I)>>=_) _ _ s;refine aa (G.done s _ _ j λh' J=>?_);rw[aZ (Nat.le_refl _)] at hS;exact ae (hR h' c (λb o _ hb e=>J b o hb e) (J S _ O hS))
 |succ k ih =>
  intro i s c hk hi j hS hR;have D:i<vals.length:=by lia
  have hv:vals[i]?=some vals[i]:=ag D;refine cQ im ?_;rw[bJ d6 _];show aF _ A.in1 (eL (.ref I)>>=_) _ _ s;refine aa (G.item i s _ _ _ hv j λh1 st1 k1=>?_);have Z:=k1 S _ O hS;have szl:=bn;have B:(vals.take i).toArray.size=i:=by rw[av,a6];lia
  show aF _ A.in1 (updateSeq S (·.push vals[i])>>=_) _ _ _;refine aa ?_;refine eW (s:={s with heap:=h1}) Z rfl (ae ⟨da d6 _,?_⟩) (by rw[B];lia) (by show((vals.take i).toArray.push vals[i]).size<=sizeLine+1;rw[dj,B];lia)
  have hS2:=cX (bD (·.push vals[i])) Z rfl;have et:(vals.take i).toArray.push vals[i]=(vals.take (i+1)).toArray:=by
   rw[cI,hv];simp
  obtain⟨c1,Y⟩:∃c1,(h1.update S (bD (·.push vals[i]))).get? S=some {cls:=.type "list",dict:=none,data:=.seq (vals.take (i+1)).toArray c1,slots:=#[]}:=⟨_,by rw[<- et];exact hS2⟩
  refine ih (i+1) {s with heap:=h1.update S (bD (·.push vals[i]))} c1 (by lia) D (G.frame _ _ _ st1 λb hb o e=>(bi _ _ (λh:S=b=>hSf (by rw[h];exact hb))).trans e) Y λh' c' a1 a2=>?_
  ·exact hR h' c' (λb o N L e=>a1 b o N L ((bi _ _ (dA N)).trans (k1 b o L e))) a2
theorem collectT{p:Addr}{es:Array (Int×ad)}{ep:Nat}{t:cB}{Q:List ad->ah->Prop}(hh:A.handled=none)(hp:s.heap.get? p=some (setOb es ep t))(hf:t.fits es.size=true)(hled:t.led=ledOf w)(hpl:t.plain=true->es.size<=1)(hn:es.size<=300)
  (h:∀vals h' d,vals.Perm (es.toList.map (·.2))->(∀b o,s.heap.get? b=some o->h'.get? b=some o)->Q vals {s with heap:=h',drawn:=d}):aF (aB prog w) A (collect (.ref p)) Q E s:=by
 have N:p<s.heap.objs.size:=aA hp;have hT:∀s':ah,s'.heap.get? p=some (setOb es ep t)->s'.TypeIs (.ref p) "set":=λs' e=>⟨_,e,rfl⟩;unfold collect;refine aa (wpAny_runValue (cQ PySem.F.entry_proto_collect ?_));rw[bJ PySem.F.plain_proto_collect _];show aF _ A.in1 (newList []>>=λl=>again (.builtin "list.__iadd__" ⟨[l,.ref p],[]⟩)) _ _ s;refine aa (bd ?_);refine ae ⟨da iS _,cQ PySem.F.entry_list_iadd ?_⟩;rw[bJ iS _];show aF _ A.in1 (gS (.ref s.heap.objs.size) (.ref p) (.ref s.heap.objs.size)) _ _ _;generalize J:s.heap.push _=h1;have old:∀b o,s.heap.get? b=some o->h1.get? b=some o:=λb o e=>by rw[<- J];exact af _ e
 have L:h1.objs.size=s.heap.objs.size+1:=by rw[<- J,cZ]
 have hS1:h1.get? s.heap.objs.size=some {cls:=.type "list",dict:=none,data:=.seq #[] 0,slots:=#[]}:=by rw[<- J];exact aq _ rfl
 have D:=old p _ hp;unfold gS;refine aa (fw (hT {s with heap:=h1} D) ?_)
 have e1:iF (.ref s.heap.objs.size) (.ref p)=false:=by simp[iF,Nat.ne_of_gt N]
 rw[if_neg (by rw[e1];decide)]
 refine aa (fQ8 (s:={s with heap:=h1}) hh D hf hled hpl hn λI fp vals St h2 d B G st2 hI hfp k2=>?_)
 have hvl:vals.length=es.size:=by have:=B.length_eq;simpa using this
 have hI':h1.objs.size<=I:=hI;have hSI:s.heap.objs.size≠I:=by lia
 refine aa (bb (dZx (k2 p _ D) ?_));have O:s.heap.objs.size∉fp:=λz=>by
  have q:=hfp _ z;have q':s.heap.objs.size=p\/h1.objs.size<=s.heap.objs.size:=q;rcases q' with e|e
  ·exact absurd e (Nat.ne_of_gt N)
  ·rw[L] at e;exact absurd e (Nat.not_succ_le_self _)
 refine fJ (λ_=>?_) (λhc=>absurd (by decide +kernel) hc)
 refine aa (cx ?_);refine aa ?_;have Z:=k2 _ _ hS1;show aF _ _ (updateSeq s.heap.objs.size (·.push .none)>>=λ_=>updateSeq s.heap.objs.size (·.pop)) _ _ _;refine aa (eW Z rfl ?_);have Y:=cX (bD (·.push cL)) Z rfl;refine eW (hz:=by seq_fits) Y rfl ?_
 have hS4:=cX (bD (·.pop)) Y rfl;refine ae ⟨da d6 _,?_⟩;refine cJj G (by lia) O _ (vals.length-0) 0 _ _ rfl (Nat.zero_le _) (G.frame _ _ _ st2 λb hb o e=>?_) hS4 λh' c' a1 a2=>?_
 ·have j:b≠s.heap.objs.size:=λz=>O (z▸hb);exact(bi _ _ (dA j)).trans ((bi _ _ (dA j)).trans e)
 ·show aF _ A (load s.heap.objs.size>>=_) _ _ _;refine aa (wpAny_load a2 ?_)
  have:=h vals h' d B λb o e=>?_
  ·exact ae this
  ·have j:b≠s.heap.objs.size:=Nat.ne_of_lt (aA e);have hbI:b≠I:=Nat.ne_of_lt (Nat.lt_of_lt_of_le (aA e) (Nat.le_trans (by rw[L];exact Nat.le_succ _) hI'))
   exact a1 b o j hbI ((bi _ _ (dA j)).trans ((bi _ _ (dA j)).trans (k2 b o (old b o e))))
end
end ST
namespace KS
open PySem PySem.W PyProof.Rows
def TS(h:aX)(v:ad)(d:List Str):Prop:=∃b items,v=.ref b/\IsTup h b items/\HT.SAre items.toList d
section
variable{prog:aE}{w:aQ}{A:aW}{E:ad->ah->Prop}{s:ah}
theorem dQp{Q:Bool->ah->Prop}:∀{us vs:List ad}{d e:List Str}(i:Nat) {fin:Bool},HT.SAre us d->HT.SAre vs e->fin=decide (d.length<e.length)->Q (HT.lexS d e) s->KatLex prog w A true fin Q (us.zip vs) i s
 |_,_,_,_,i,fin,.nil,.nil,hf,h=>by subst hf;exact kat_nil h
 |_,_,_,_,i,fin,.nil,.cons _ _,hf,h=>by
  subst hf;rw[ez];rw[HT.lexS_nil_cons] at h;exact kat_nil (by simpa using h)
 |_,_,_,_,i,fin,.cons _ _,.nil,hf,h=>by
  subst hf;rw[dz];rw[HT.lexS_cons_nil] at h;exact kat_nil (by simpa using h)
 |_,_,x::d,y::e,i,fin,.cons ⟨t,B⟩ p,.cons ⟨u,j⟩ q,hf,h=>by
  subst B j;rw[eQ];rw[HT.lexS_cons] at h;refine kat_cons (h9 x t y u _ _ _ _ ?_);refine kat_go (λz=>kat_yes (dQp (i+1) p q (by subst hf;simp) (by rw[if_pos (by simpa using z)] at h;exact h))) λz=>kat_no ?_
  rw[if_neg (by simpa using z)] at h
  cases i with
  |zero=>exact oneLt_str h
  |succ i =>
   show aF _ _ (oneLt' false _ _) _ _ _;exact kat_one _ _ (jr (show PySem.W.BoolBack Q (.bool (HT.ltS x y)) s from h))
theorem cZ9{x y:ad}{d e:List Str}{Q:Bool->ah->Prop}(hx:TS s.heap x d)(hy:TS s.heap y e)(h:Q (HT.lexS d e) s):aF (aB prog w) A (keyLt' (tuples' true) x y) Q E s:=by
 obtain⟨b,items,rfl,⟨o,L,_,n,hd⟩,p⟩:=hx;obtain⟨b2,j,rfl,⟨N,B,_,O,hd2⟩,p2⟩:=hy;refine kat_lt L hd B hd2 (dQp 0 p p2 ?_ h);have J:=p.len;have D:=p2.len;simp only[aH] at J D;rw[J,D]
theorem cQ4{x y:ad}{d e:List Str}{Q:Bool->ah->Prop}(hu:A.units<de)(hx:TS s.heap x d)(hy:TS s.heap y e)(h:Q (HT.lexS d e) s):aF (aB prog w) A (keyLt' general' x y) Q E s:=by
 obtain⟨b,items,rfl,t1,p⟩:=hx;obtain⟨b2,j,rfl,t2,p2⟩:=hy;show aF _ _ (oneLt' false _ _) _ _ _;exact kat_one _ _ (HT.lt_tupStrs t1 t2 p p2 hu (show PySem.W.BoolBack Q (.bool (HT.lexS d e)) s from h))
theorem eZh{x y:ad}{d e:List Str}{Q:Bool->ah->Prop}(hu:A.units<de)(hx:TS s.heap x d)(hy:TS s.heap y e)(h:Q (HT.lexS d e) s):aF (aB prog w) A (keyLt' oneType' x y) Q E s:=by
 obtain⟨b,items,rfl,t1,p⟩:=hx;obtain⟨b2,j,rfl,t2,p2⟩:=hy;rw[keyLt'_oneType,oneLt'_eq];simp only[if_true];obtain⟨⟨cls,dd,data,sl⟩,L,O,n,hd⟩:=id t1;obtain⟨⟨Y,N,data2,D⟩,J,B,Z,hd2⟩:=id t2;simp only at O hd B hd2;subst O hd B hd2;refine aa (wpAny_cRoomFor hu ?_);refine aa (wpAny_callSpecialIfBound?_slot ⟨_,L,rfl⟩ f9 (call_meets f9 ⟨_,L,rfl⟩ jc (iP _ _) (HT.tuple_lt_strs b b2 items j n Z dd N sl D d e p p2) ⟨L,J,?_⟩));exact eh h
theorem bZn:∀{vs:List ad}{ds:List (List Str)}{Q:List (Option ad)->ah->Prop},bG (TS s.heap) vs ds->(∀fs:List (Option ad),bG (λf d=>match f with|none=>d=[]|some v=>∃x r t,d=x::r/\v=.str x t) fs ds->Q fs s)->aF (aB prog w) A (vs.mapM firstOfTuple') Q E s
 |_,_,_,.nil,h=>by rw[List.mapM_nil];exact ae (h [] .nil)
 |_,_,Q,.cons p q,h=>by
  obtain⟨b,items,rfl,⟨o,j,D,n,hd⟩,sa⟩:=p;rw[List.mapM_cons];refine aa ?_;rw[kas_first_eq];refine aa (Looks.here (show Looks (aB prog w) s.heap (typeOf (.ref b)) o.cls from(Looks.ld j).andThen .now) ?_)
  rw[D,if_neg (by first|decide|simp)]
  refine aa (listItems_at j hd (ae ?_));refine aa (bZn q λfs pf=>ae (h _ (.cons ?_ pf)));obtain⟨items⟩:=items;have sa:HT.SAre items _:=sa;have e:(Array.mk items)[0]?=items[0]?:=by simp
  rw[e];cases sa with
  |nil=>rfl
  |cons z _=>obtain⟨t,B⟩:=z;exact⟨_,_,t,rfl,B⟩
theorem dX0{vs:List ad}{ds:List (List Str)}{Q:eD->ah->Prop}(p:bG (TS s.heap) vs ds)(hne:vs≠[])(h:∀κ,κ=tuples' true\/κ=general'\/κ=oneType'->Q κ s):aF (aB prog w) A (keyKind' vs.toArray) Q E s:=by
 rw[kat_kind_eq,ix,map_eq_pure_bind];refine aa (aa (bZn p λfs pf=>ae ?_))
 by_cases j:(fs.toArray.all λx=>x.isSome)=true
 ·rw[if_pos j];refine aa (cx ?_);rw[oneTypeOnly'_eq];have L:∀v∈(fs.toArray.filterMap id).toList,∃x t,v=.str x t:=λv L=>by
   simp only[Array.toList_filterMap,List.mem_filterMap,id] at L;obtain⟨f,hf,rfl⟩:=L
   have:∀{fs:List (Option ad)}{ds:List (List Str)},bG (λf d=>match f with|none=>d=[]|some v=>∃x r t,d=x::r/\v=.str x t) fs ds->some v∈fs->∃x t,v=.str x t:=by
    intro fs ds pf
    induction pf with
    |nil=>intro hm;cases hm
    |cons z _ N =>
     intro hm;rcases aM.mp hm with e|hm
     ·subst e;obtain⟨x,r,t,_,e⟩:=z;exact⟨x,t,e⟩
     ·exact N hm
   exact this pf hf
  have B:(fs.toArray.filterMap id).toList≠[]:=by
   have Y:fs.length=vs.length:=by have:=dW p;have:=dW pf;lia
   cases fs with
   |nil=>exact absurd (bX (by simpa using Y.symm)) hne
   |cons f fs =>
    simp only[List.all_toArray,List.all_cons,bL] at j;obtain⟨v,rfl⟩:=dD.mp j.1;simp
  generalize (fs.toArray.filterMap id)=gs at L B;obtain⟨gs⟩:=gs;rw[ix,map_eq_pure_bind];refine aa (aa (aa (kas_mapM (r:=d0 "str") gs (λv D Q' O=>?_) (ae ?_))))
  ·obtain⟨x,t,rfl⟩:=L v D;exact ae O
  ·obtain⟨g,gr,rfl⟩:∃g gr,gs=g::gr:=by
    cases gs with
    |nil=>exact absurd rfl B
    |cons g gr=>exact⟨g,gr,rfl⟩
   have h0:(bq (λ_=>d0 "str") (g::gr)).toArray[0]?=some (d0 "str"):=by simp
   have J:((bq (λ_=>d0 "str") (g::gr)).toArray.all λx=>x==d0 "str")=true:=by
    simp only[List.all_toArray,fY,b8];intro _ _;simp
   rw[h0];simp only[J,if_true];exact ae (ae (h _ (.inl rfl)))
 ·rw[if_neg j]
  by_cases h1:((fs.toArray[0]?.bind id).isSome)=true
  ·rw[if_pos h1];exact ae (h _ (.inr (.inl rfl)))
  ·rw[if_neg h1,oneTypeOnly'_eq,ix,map_eq_pure_bind];refine aa (aa (aa (kas_mapM (r:=d0 "tuple") vs (λv D Q' O=>?_) (ae ?_))))
   ·have:∀{vs:List ad}{ds:List (List Str)},bG (TS s.heap) vs ds->v∈vs->∃d,TS s.heap v d:=by
     intro vs ds pp
     induction pp with
     |nil=>intro hm;cases hm
     |cons z _ N =>
      intro hm;rcases aM.mp hm with e|hm
      ·subst e;exact⟨_,z⟩
      ·exact N hm
    obtain⟨d,b,items,rfl,⟨o,Z,hc,_⟩,_⟩:=this p D;refine Looks.here (show Looks (aB prog w) s.heap (typeOf (.ref b)) (.type "tuple") from ?_) O
    rw[<- hc];exact(Looks.ld Z).andThen .now
   ·generalize (bq (λ_=>d0 "tuple") vs).toArray=ts;cases ts[0]? with
    |none=>exact ae (ae (by first|exact h _ (.inr (.inl rfl))|exact h _ (.inr (.inr rfl))))
    |some t =>
     by_cases h2:(ts.all (· ==t))=true
     ·simp only[h2,if_true];exact ae (ae (h _ (.inr (.inr rfl))))
     ·simp only[h2,if_false];exact ae (ae (h _ (.inr (.inl rfl))))
end
end KS
namespace SF
open PySem PyProof.Rows
abbrev SM:=StateT cM Sem
def gal:Bool->aJ->Array aJ->Nat->Nat->Nat->SM (Option Nat):=sortPriv% PySem.Builtin.gallop
def mLo:Array aJ->Array aJ->SM (Array aJ):=sortPriv% PySem.Builtin.mergeLo
def mHi:Array aJ->Array aJ->SM (Array aJ):=sortPriv% PySem.Builtin.mergeHi
abbrev setG(st:cM)(g:Nat):cM:=ie (kindOf st) (aO st) (bC st) g (fh st)
def bey(lf:Bool)(key:aJ)(arr:Array aJ)(b0 i:Nat):SM (Option Bool):=do
 let x <- d3 arr (b0+i)
 if lf then lt' x key else return (<- lt' key x).map (!·)
theorem eZi(lf:Bool)(key:aJ)(arr:Array aJ)(b0 n at0:Nat):gal lf key arr b0 n at0=(do
 let mut lastofs:=0
 let mut ofs:=1
 let mut lo:=0
 let mut hi:=0
 let some rt <- bey lf key arr b0 at0|return none
 if rt then
  let mx:=n-at0
  for _ in [0:n] do
   if ofs>=mx then break
   let some m1 <- bey lf key arr b0 (at0+ofs)|return none
   if !m1 then break
   lastofs:=ofs
   ofs:=2*ofs+1
  lo:=at0+lastofs+1
  hi:=at0+min ofs mx
 else
  let mx:=at0+1
  for _ in [0:n] do
   if ofs>=mx then break
   let some f1 <- bey lf key arr b0 (at0-ofs)|return none
   if f1 then break
   lastofs:=ofs
   ofs:=2*ofs+1
  lo:=at0+1-min ofs mx
  hi:=at0-lastofs
 for _ in [0:n] do
  if lo>=hi then break
  let m:=lo+(hi-lo)/2
  let some m2 <- bey lf key arr b0 m|return none
  if m2 then lo:=m+1 else hi:=m
 return some hi):=rfl
theorem eZj(a b:Array aJ):mLo a b=(do
 rule "list.sort.merge-lo"
 let total:=a.size+b.size
 let fin (o:Array aJ) (ia ib:Nat):=o++a.extract ia a.size++b.extract ib b.size
 let lst (o:Array aJ) (ia ib:Nat):=o++b.extract ib b.size++a.extract ia a.size
 let mut out:Array aJ:=#[<- d3 b 0]
 let mut ia:=0
 let mut ib:=1
 if ib==b.size then return fin out ia ib
 if ia+1==a.size then return lst out ia ib
 let mut minGallop:=gallopOf (<- get)
 for _ in [0:total] do
  let mut acount:=0
  let mut bcount:=0
  for _ in [0:total] do
   let some bw <- lt' (<- d3 b ib) (<- d3 a ia)|return fin out ia ib
   if bw then
    out:=out.push (<- d3 b ib)
    ib:=ib+1
    bcount:=bcount+1
    acount:=0
    if ib==b.size then return fin out ia ib
    if bcount>=minGallop then break
   else
    out:=out.push (<- d3 a ia)
    ia:=ia+1
    acount:=acount+1
    bcount:=0
    if ia+1==a.size then return lst out ia ib
    if acount>=minGallop then break
  rule "list.sort.gallop"
  minGallop:=minGallop+1
  for _ in [0:total] do
   if minGallop>1 then minGallop:=minGallop-1
   modify (λs=>setG s minGallop)
   let some k <- gal false (<- d3 b ib) a ia (a.size-ia) 0|return fin out ia ib
   acount:=k
   if k>0 then
    out:=out++a.extract ia (ia+k)
    ia:=ia+k
    if ia+1==a.size then return lst out ia ib
    if ia==a.size then return fin out ia ib
   out:=out.push (<- d3 b ib)
   ib:=ib+1
   if ib==b.size then return fin out ia ib
   let some k <- gal true (<- d3 a ia) b ib (b.size-ib) 0|return fin out ia ib
   bcount:=k
   if k>0 then
    out:=out++b.extract ib (ib+k)
    ib:=ib+k
    if ib==b.size then return fin out ia ib
   out:=out.push (<- d3 a ia)
   ia:=ia+1
   if ia+1==a.size then return lst out ia ib
   if acount<7&&bcount<7 then break
  minGallop:=minGallop+1
  modify (λs=>setG s minGallop)
 gJ "internal:list.sort.merge-bound"):=rfl
structure Orc(prog:aE)(w:aQ)(A:aW)(s:ah)(κ:eD)(P:aJ->Prop)(lt:aJ->aJ->Bool):Prop where
 ask:∀x y (Q:Bool->ah->Prop),P x->P y->Q (lt x y) s->aF (aB prog w) A (keyLt' κ x.1 y.1) Q (λ_ _=>False) s
 as:∀x y,P x->P y->lt x y=true->lt y x=false
 tr:∀x y z,P x->P y->P z->lt y x=false->lt z y=false->lt z x=false
section
variable{prog:aE}{w:aQ}{A:aW}{E:ad->ah->Prop}{s:ah}{κ:eD}{P:aJ->Prop}{lt:aJ->aJ->Bool}
theorem cZa(o:Orc prog w A s κ P lt){st:cM}{x y:aJ}{Q:Option Bool->cM->Prop}(hk:kindOf st=κ)(hx:P x)(hy:P y)(h:Q (some (lt x y)) st):wpS (aB prog w) A E s (lt' x y) Q st:=by
 rw[lt'_eq];refine ax (gU ?_);rw[hk];refine ax (ig (iD (cj (o.ask x y (λb s'=>s'=s/\b=lt x y) hx hy ⟨rfl,rfl⟩) (λb s' j=>?_) λ_ _ B=>B.elim)));obtain⟨rfl,rfl⟩:=j;exact⟨rfl,aC h⟩
theorem aZb{st:cM}{arr:Array aJ}{i:Nat}{x:aJ}{Q:aJ->cM->Prop}(hx:arr[i]?=some x)(h:Q x st):wpS (aB prog w) A E s (d3 arr i) Q st:=by
 rw[elem'_eq,hx];exact aC h
def bv(lt:aJ->aJ->Bool)(lf:Bool)(key x:aJ):Bool:=if lf then lt x key else !lt key x
theorem bZo(o:Orc prog w A s κ P lt){st:cM}{lf:Bool}{key x:aJ}{arr:Array aJ}{b0 i:Nat}{Q:Option Bool->cM->Prop}(hk:kindOf st=κ)(hkey:P key)(hx:arr[b0+i]?=some x)(px:P x)(h:Q (some (bv lt lf key x)) st):wpS (aB prog w) A E s (bey lf key arr b0 i) Q st:=by
 unfold bey;refine ax (aZb hx ?_);cases lf with
 |true=>exact cZa o hk px hkey h
 |false=>exact ax (cZa o hk hkey px (aC h))
theorem dQq{st:cM}{b:Nat->Bool}{n lo hi:Nat}{body:Nat->Option (Option Nat)×Nat×Nat->SM (ForInStep (Option (Option Nat)×Nat×Nat))}{Q:Option (Option Nat)×Nat×Nat->cM->Prop}
  (hb:∀x lo hi (Q':ForInStep (Option (Option Nat)×Nat×Nat)->cM->Prop),hi<=n->(hi<=lo->Q' (.done (none,lo,hi)) st)->(lo<hi->b (lo+(hi-lo)/2)=true->Q' (.yield (none,lo+(hi-lo)/2+1,hi)) st)->(lo<hi->b (lo+(hi-lo)/2)=false->Q' (.yield (none,lo,lo+(hi-lo)/2)) st)->wpS (aB prog w) A E s (body x (none,lo,hi)) Q' st)
  (mono:∀i j,i<=j->j<n->b j=true->b i=true) (h1:lo<=hi) (h2:hi<=n) (h3:∀i,i<lo->b i=true) (h4:∀i,hi<=i->i<n->b i=false)
  (h:∀k,k<=n->(∀i,i<k->b i=true)->(∀i,k<=i->i<n->b i=false)->Q (none,k,k) st):wpS (aB prog w) A E s (forIn [0:n] ((none,lo,hi):Option (Option Nat)×Nat×Nat) body) Q st:=by
 refine c7 (bF (I:=λx c B=>B=st/\∃ lo hi,c=(none,lo,hi)/\lo<=hi/\hi<=n/\hi + x<=lo + n/\(∀ i,i < lo->b i=true)/\∀ i,hi<=i->i < n->b i=false)
  (Q:=λc B=>B=st/\∃lo hi,c=(none,lo,hi)/\hi<=lo/\lo<=hi/\hi<=n/\(∀i,i<lo->b i=true)/\∀i,hi<=i->i<n->b i=false) ?_ ?_ ⟨rfl,lo,hi,rfl,h1,h2,by omega,h3,h4⟩) ?_
 ·rintro x c B _ Y ⟨rfl,lo,hi,rfl,a1,a2,O,J,D⟩;refine hb x lo hi _ a2 (λL=>⟨rfl,lo,hi,rfl,L,a1,a2,J,D⟩) (λL e=>⟨rfl,_,_,rfl,by omega,a2,by omega,λi N=>mono i _ (by omega) (by omega) e,D⟩) λL e=>⟨rfl,_,_,rfl,by omega,by omega,by omega,J,λi h1 h2=>?_⟩
  cases e2:b i with
  |false=>rfl
  |true=>rw[mono _ i h1 h2 e2] at e;cases e
 ·rintro c B ⟨rfl,lo,hi,rfl,a1,a2,O,J,D⟩;exact⟨rfl,lo,hi,rfl,by omega,a1,a2,J,D⟩
 ·rintro c B ⟨rfl,lo,hi,rfl,a0,a1,a2,J,D⟩
  have:lo=hi:=by omega
  subst this;exact h lo a2 J D
theorem bQb(o:Orc prog w A s κ P lt){st:cM}{lf:Bool}{key:aJ}{arr:Array aJ}{b0 n at0:Nat}{f:Nat->aJ}{Q:Option Nat->cM->Prop}(hk:kindOf st=κ)(hkey:P key)
  (hf:∀i,i<n->arr[b0+i]?=some (f i)/\P (f i)) (mono:∀i j,i<=j->j<n->bv lt lf key (f j)=true->bv lt lf key (f i)=true) (h0:at0<n)
  (h:∀k,k<=n->(∀i,i<k->bv lt lf key (f i)=true)->(∀i,k<=i->i<n->bv lt lf key (f i)=false)->Q (some k) st):wpS (aB prog w) A E s (gal lf key arr b0 n at0) Q st:=by
 rw[eZi];dsimp only;have up:∀i j,i<=j->j<n->bv lt lf key (f i)=false->bv lt lf key (f j)=false:=λi j h1 h2 h3=>by
  cases e:bv lt lf key (f j) with
  |false=>rfl
  |true=>rw[mono i j h1 h2 e] at h3;cases h3
 refine ax (bZo o hk hkey (hf at0 h0).1 (hf at0 h0).2 ?_);dsimp only;cases e0:bv lt lf key (f at0) with
 |true =>
  rw[if_pos rfl];refine ax (c7 (bF (I:=λx c D=>D=st/\∃ l B,c=(none,l,B)/\l < B/\x + 1<=B/\at0 + l < n/\bv lt lf key (f (at0 + l))=true)
   (Q:=λc D=>D=st/\∃l B,c=(none,l,B)/\l<B/\at0+l<n/\bv lt lf key (f (at0+l))=true/\(n-at0<=B\/(at0+B<n/\bv lt lf key (f (at0+B))=false))) ?_ ?_ ⟨rfl,0,1,rfl,by decide,by decide,h0,e0⟩) ?_)
  ·rintro x c D _ hx ⟨rfl,l,B,rfl,a1,a2,N,L⟩;dsimp only
   by_cases J:B>=n-at0
   ·rw[if_pos J];exact aC ⟨rfl,l,B,rfl,a1,N,L,.inl J⟩
   ·rw[if_neg J];have hm:at0+B<n:=by omega
    refine ax (bZo o hk hkey (hf _ hm).1 (hf _ hm).2 ?_);dsimp only;cases e:bv lt lf key (f (at0+B)) with
    |true=>rw[if_neg (by simp)];exact aC ⟨rfl,B,_,rfl,by omega,by omega,hm,e⟩
    |false=>rw[if_pos (by rfl)];exact aC ⟨rfl,l,B,rfl,a1,N,L,.inr ⟨hm,e⟩⟩
  ·rintro c D ⟨rfl,l,B,rfl,a1,a2,N,L⟩;exact⟨rfl,l,B,rfl,a1,N,L,.inl (by omega)⟩
  ·rintro c D ⟨rfl,l,B,rfl,a1,N,L,a5⟩;have H4:∀i,at0+min B (n-at0)<=i->i<n->bv lt lf key (f i)=false:=λi h1 h2=>by
    rcases a5 with z|⟨z1,O⟩
    ·omega
    ·exact up (at0+B) i (by omega) h2 O
   refine ax (dQq (b:=λi=>bv lt lf key (f i)) (n:=n) (lo:=at0+l+1) (hi:=at0+min B (n-at0)) (λx lo hi Q' hn q1 Z Y=>?_) mono (by omega) (by omega) (λi hi=>mono i (at0+l) (by omega) N L) H4 λk k1 k2 k3=>aC (h k k1 k2 k3))
   dsimp only
   by_cases J:lo>=hi
   ·rw[if_pos J];exact aC (q1 J)
   ·rw[if_neg J];have hm:lo+(hi-lo)/2<n:=by omega
    refine ax (bZo o hk hkey (hf _ hm).1 (hf _ hm).2 ?_);dsimp only;cases e:bv lt lf key (f (lo+(hi-lo)/2)) with
    |true=>rw[if_pos rfl];exact aC (Z (by omega) e)
    |false=>rw[if_neg (by simp)];exact aC (Y (by omega) e)
 |false =>
  rw[if_neg (by simp)]
  refine ax (c7 (bF (I:=λx c D=>D=st/\∃ l B,c=(none,l,B)/\l < B/\x + 1<=B/\l<=at0/\bv lt lf key (f (at0 - l))=false)
   (Q:=λc D=>D=st/\∃l B,c=(none,l,B)/\l<B/\l<=at0/\bv lt lf key (f (at0-l))=false/\(at0+1<=B\/(B<=at0/\bv lt lf key (f (at0-B))=true))) ?_ ?_ ⟨rfl,0,1,rfl,by decide,by decide,Nat.zero_le _,e0⟩) ?_)
  ·rintro x c D _ hx ⟨rfl,l,B,rfl,a1,a2,N,L⟩;dsimp only
   by_cases J:B>=at0+1
   ·rw[if_pos J];exact aC ⟨rfl,l,B,rfl,a1,N,L,.inl J⟩
   ·rw[if_neg J];have hm:at0-B<n:=by omega
    refine ax (bZo o hk hkey (hf _ hm).1 (hf _ hm).2 ?_);dsimp only;cases e:bv lt lf key (f (at0-B)) with
    |true=>rw[if_pos rfl];exact aC ⟨rfl,l,B,rfl,a1,N,L,.inr ⟨by omega,e⟩⟩
    |false=>rw[if_neg (by simp)];exact aC ⟨rfl,B,_,rfl,by omega,by omega,by omega,e⟩
  ·rintro c D ⟨rfl,l,B,rfl,a1,a2,N,L⟩;exact⟨rfl,l,B,rfl,a1,N,L,.inl (by omega)⟩
  ·rintro c D ⟨rfl,l,B,rfl,a1,N,L,a5⟩;have H3:∀i,i<at0+1-min B (at0+1)->bv lt lf key (f i)=true:=λi hi=>by
    rcases a5 with z|⟨z1,O⟩
    ·omega
    ·exact mono i (at0-B) (by omega) (by omega) O
   refine ax (dQq (b:=λi=>bv lt lf key (f i)) (n:=n) (lo:=at0+1-min B (at0+1)) (hi:=at0-l) (λx lo hi Q' hn q1 Z Y=>?_) mono (by omega) (by omega) H3 (λi h1 h2=>up (at0-l) i h1 h2 L) λk k1 k2 k3=>aC (h k k1 k2 k3))
   dsimp only
   by_cases J:lo>=hi
   ·rw[if_pos J];exact aC (q1 J)
   ·rw[if_neg J];have hm:lo+(hi-lo)/2<n:=by omega
    refine ax (bZo o hk hkey (hf _ hm).1 (hf _ hm).2 ?_);dsimp only;cases e:bv lt lf key (f (lo+(hi-lo)/2)) with
    |true=>rw[if_pos rfl];exact aC (Z (by omega) e)
    |false=>rw[if_neg (by simp)];exact aC (Y (by omega) e)
end
def Sd{α:Type}(lt:α->α->Bool)(l:List α):Prop:=l.Pairwise λx y=>lt y x=false
structure Iv{α:Type}(lt:α->α->Bool)(T out rest:List α):Prop where
 perm:(out++rest).Perm T
 sd:Sd lt out
 lo:∀x∈out,∀y∈rest,lt y x=false
section
variable{α:Type}{lt:α->α->Bool}{T out rest:List α}
theorem Iv.step(h:Iv lt T out rest){xs rest':List α}(hp:rest.Perm (xs++rest'))(hs:Sd lt xs)(hl:∀x∈xs,∀y∈rest',lt y x=false):Iv lt T (out++xs) rest':=by
 refine⟨?_,be.mpr ⟨h.sd,hs,λx B y j=>h.lo x B y (hp.mem_iff.mpr (c5 _ j))⟩,λx B y j=>?_⟩
 ·rw[aY];exact(d4 out hp.symm).trans h.perm
 ·rcases aN.mp B with z|z
  ·exact h.lo x z y (hp.mem_iff.mpr (bf _ j))
  ·exact hl x z y j
theorem Iv.done(h:Iv lt T out rest)(hs:Sd lt rest):Sd lt (out++rest)/\(out++rest).Perm T:=⟨be.mpr ⟨h.sd,hs,h.lo⟩,h.perm⟩
theorem Iv.perm'(h:Iv lt T out rest){rest':List α}(hp:rest.Perm rest'):Iv lt T out rest':=⟨(d4 out hp.symm).trans h.perm,h.sd,λx B y j=>h.lo x B y (hp.mem_iff.mpr j)⟩
theorem Iv.size(h:Iv lt T out rest):out.length+rest.length=T.length:=by rw[<- aG];exact h.perm.length_eq
theorem bXe{l:List α}{i:Nat}{x:α}(h:l[i]?=some x):l.drop i=x::l.drop (i+1):=by
 have hi:=(aD.mp h).1;rw[cv hi]
 congr 1
 exact(aD.mp h).2
theorem Sd.drop{l:List α}(h:Sd lt l)(i:Nat):Sd lt (l.drop i):=h.sublist (List.drop_sublist _ _)
theorem Sd.at{l:List α}(h:Sd lt l){i j:Nat}{x y:α}(hij:i<j)(hx:l[i]?=some x)(hy:l[j]?=some y):lt y x=false:=by
 obtain⟨h1,e1⟩:=aD.mp hx;obtain⟨h2,e2⟩:=aD.mp hy
 have:=cw.mp h i j h1 h2 hij
 rw[e1,e2] at this;exact this
theorem aQq{l:List α}{i:Nat}{y:α}(h:y∈l.drop i):∃j,i<=j/\l[j]?=some y:=by
 obtain⟨k,B,e⟩:=cg h;rw[iy] at e;rw[bE] at B;exact⟨i+k,by omega,by rw[ag (by omega),e]⟩
end
section
variable{prog:aE}{w:aQ}{A:aW}{s:ah}{κ:eD}{P:aJ->Prop}{lt:aJ->aJ->Bool}{T out la lb:List aJ}{ia ib:Nat}{x y:aJ}
theorem bZp(o:Orc prog w A s κ P lt){l:List aJ}(hP:∀z∈l,P z)(hs:Sd lt l){i:Nat}{z:aJ}(hz:P z){y:aJ}(hy:l[i]?=some y)(h:lt y z=false):∀u∈l.drop i,lt u z=false:=λu D=>by
 obtain⟨j,J,e⟩:=aQq D;rcases Nat.eq_or_lt_of_le J with rfl|B
 ·rw[hy] at e;cases e;exact h
 ·exact o.tr z y u hz (hP y (ao hy)) (hP u (ao e)) h (hs.at B hy e)
theorem Iv.pushB(h:Iv lt T out (la.drop ia++lb.drop ib))(sb:Sd lt lb)(hy:lb[ib]?=some y)(hl:∀u∈la.drop ia,lt u y=false):Iv lt T (out++[y]) (la.drop ia++lb.drop (ib+1)):=by
 refine h.step ?_ (bY _ _) λx B u D=>?_
 ·rw[bXe hy];exact gv
 ·rw[aL.mp B];rcases aN.mp D with z|z
  ·exact hl u z
  ·obtain⟨j,J,e⟩:=aQq z;exact sb.at (by omega) hy e
theorem Iv.pushA(h:Iv lt T out (la.drop ia++lb.drop ib))(sa:Sd lt la)(hx:la[ia]?=some x)(hl:∀u∈lb.drop ib,lt u x=false):Iv lt T (out++[x]) (la.drop (ia+1)++lb.drop ib):=by
 refine h.step ?_ (bY _ _) λz B u D=>?_
 ·rw[bXe hx];exact dE _
 ·rw[aL.mp B];rcases aN.mp D with z|z
  ·obtain⟨j,J,e⟩:=aQq z;exact sa.at (by omega) hx e
  ·exact hl u z
theorem Iv.blockA(h:Iv lt T out (la.drop ia++lb.drop ib))(sa:Sd lt la)(k:Nat)(hl:∀z∈(la.drop ia).take k,∀u∈lb.drop ib,lt u z=false):Iv lt T (out++(la.drop ia).take k) (la.drop (ia+k)++lb.drop ib):=by
 have e:la.drop ia=(la.drop ia).take k++la.drop (ia+k):=by rw[<- List.drop_drop];exact(bo k _).symm
 have sd:=sa.drop ia;rw[e] at sd;obtain⟨s1,_,s3⟩:=be.mp sd;refine h.step ?_ s1 λz j u B=>?_
 ·rw[<- aY,<- e]
 ·rcases aN.mp B with v|v
  ·exact s3 z j u v
  ·exact hl z j u v
theorem Iv.blockB(h:Iv lt T out (la.drop ia++lb.drop ib))(sb:Sd lt lb)(k:Nat)(hl:∀z∈(lb.drop ib).take k,∀u∈la.drop ia,lt u z=false):Iv lt T (out++(lb.drop ib).take k) (la.drop ia++lb.drop (ib+k)):=by
 have e:lb.drop ib=(lb.drop ib).take k++lb.drop (ib+k):=by rw[<- List.drop_drop];exact(bo k _).symm
 have sd:=sb.drop ib;rw[e] at sd;obtain⟨s1,_,s3⟩:=be.mp sd;refine h.step ?_ s1 λz j u B=>?_
 ·have e2:la.drop ia++lb.drop ib=la.drop ia++((lb.drop ib).take k++lb.drop (ib+k)):=by rw[<- e]
  rw[e2,<- aY,<- aY];exact dR _ cY
 ·rcases aN.mp B with v|v
  ·exact hl z j u v
  ·exact s3 z j u v
theorem aZl{l:List aJ}{i k:Nat}{z:aJ}(h:z∈(l.drop i).take k):∃j,j<k/\l[i+j]?=some z:=by
 obtain⟨j,B,e⟩:=cg h;rw[a6,bE] at B;rw[iz,iy] at e;exact⟨j,by omega,by rw[ag (by omega),e]⟩
end
theorem aZf(a:Array aJ)(i j:Nat):(a.extract i j).toList=(a.toList.drop i).take (j-i):=by simp
theorem bXf(a:Array aJ)(i:Nat):(a.extract i a.size).toList=a.toList.drop i:=by
 rw[aZf];exact aZ (by rw[bE];simp)
end SF
theorem hd{g:Prop}(h:∀G:Prop,(g->G)->G):g:=h g id
namespace SF
open PySem PyProof.Rows
section
variable{prog:aE}{w:aQ}{A:aW}{E:ad->ah->Prop}{s:ah}{κ:eD}{P:aJ->Prop}{lt:aJ->aJ->Bool}
theorem aQf{a:Array aJ}{i:Nat}(h:i<a.size):∃x,a[i]?=some x/\a.toList[i]?=some x:=⟨a[i],by simp[h],by simp[h]⟩
theorem aQu{σ α:Type}{M:Model}{c:Prop}{di:Decidable c}{X Y:StateT σ Sem α}{Q:α->σ->Prop}{st:σ}(hc:c)(h:wpS M A E s X Q st):wpS M A E s (@ite _ c di X Y) Q st:=by rw[if_pos hc];exact h
theorem aQv{σ α:Type}{M:Model}{c:Prop}{di:Decidable c}{X Y:StateT σ Sem α}{Q:α->σ->Prop}{st:σ}(hc:¬ c)(h:wpS M A E s Y Q st):wpS M A E s (@ite _ c di X Y) Q st:=by rw[if_neg hc];exact h
theorem dQr{σ α:Type}{M:Model}{c:Nat->Prop}{di:∀n,Decidable (c n)}{X Y:Nat->StateT σ Sem α}{Q:α->σ->Prop}{st:σ}(e:∀n,X n=Y (n-1))(h:∀m,wpS M A E s (Y m) Q st)(n:Nat):wpS M A E s (@ite _ (c n) (di n) (X n) (Y n)) Q st:=by
 split
 ·rw[e];exact h _
 ·exact h _
theorem eZk(o:Orc prog w A s κ P lt){st:cM}{a b:Array aJ}{Q:Array aJ->cM->Prop}(hk:kindOf st=κ)(pa:∀x∈a.toList,P x)(pb:∀y∈b.toList,P y)(sa:Sd lt a.toList)(sb:Sd lt b.toList)(na:1<=a.size)(nb:1<=b.size)
  (hfst:∀y,b.toList[0]?=some y->∀x∈a.toList,lt x y=false) (hlst:∀z,a.toList[a.size-1]?=some z->∀y∈b.toList,lt z y=false)
  (h:∀out g,Sd lt out.toList->out.toList.Perm (a.toList++b.toList)->Q out (setG st g)):wpS (aB prog w) A E s (mLo a b) Q st:=by
 have sz:(a.toList++b.toList).length=a.size+b.size:=by simp
 have finA:∀(out:Array aJ) ia ib g,ib=b.size->Iv lt (a.toList++b.toList) out.toList (a.toList.drop ia++b.toList.drop ib)->Q (out++a.extract ia a.size++b.extract ib b.size) (setG st g):=λout ia ib g e iv=>by
  have e0:b.toList.drop ib=[]:=bH (by simp[e])
  rw[e0,br] at iv
  have:=iv.done (sa.drop ia)
  refine h _ g ?_ ?_ <;> simp only[cG,bXf,e0,br]
  ·exact this.1
  ·exact this.2
 have finB:∀(out:Array aJ) ia ib g,ia=a.size->Iv lt (a.toList++b.toList) out.toList (a.toList.drop ia++b.toList.drop ib)->Q (out++a.extract ia a.size++b.extract ib b.size) (setG st g):=λout ia ib g e iv=>by
  have e0:a.toList.drop ia=[]:=bH (by simp[e])
  rw[e0,a9] at iv
  have:=iv.done (sb.drop ib)
  refine h _ g ?_ ?_ <;> simp only[cG,bXf,e0,br]
  ·exact this.1
  ·exact this.2
 have finL:∀(out:Array aJ) ia ib g,ia+1=a.size->Iv lt (a.toList++b.toList) out.toList (a.toList.drop ia++b.toList.drop ib)->Q (out++b.extract ib b.size++a.extract ia a.size) (setG st g):=λout ia ib g e iv=>by
  obtain⟨z,hz,L⟩:=aQf (a:=a) (i:=ia) (by lia)
  have e0:a.toList.drop ia=[z]:=by rw[bXe L,bH (by simp;lia)]
  have iv2:=iv.perm' cY;have hz2:a.toList[a.size-1]?=some z:=by rw[<- e];exact L
  have:=iv2.done (be.mpr ⟨sb.drop ib,sa.drop ia,λx hx y hy=>by
   rw[e0] at hy;rw[aL.mp hy];exact hlst z hz2 x (eA hx)⟩)
  refine h _ g ?_ ?_ <;> simp only[cG,bXf,aY]
  ·exact this.1
  ·exact this.2
 have t2:∀(Y:ForInStep (Option (Array aJ)×Array aJ×Nat×Nat×Nat×Nat×Nat)->cM->Prop) (out:Array aJ) (ia ib mg ac bc g:Nat),(∀r c',Q r (setG st g)->Y (.done (some r,c')) (setG st g)) ->
   (∀D B J ac' bc',B+1<a.size->J<b.size->Iv lt (a.toList++b.toList) D.toList (a.toList.drop B++b.toList.drop J)->out.size<=D.size->Y (.done (none,D,B,J,mg,ac',bc')) (setG st g)/\Y (.yield (none,D,B,J,mg,ac',bc')) (setG st g)) ->
   ia+1<a.size->ib<b.size->Iv lt (a.toList++b.toList) out.toList (a.toList.drop ia++b.toList.drop ib)->(∀x,a.toList[ia]?=some x->∀u∈b.toList.drop ib,lt u x=false) ->
   wpS (aB prog w) A E s (do
    let x <- d3 a ia
    if (ia+1+1==a.size)=true then pure (bx (some (out.push x++b.extract ib b.size++a.extract (ia+1) a.size),out.push x,ia+1,ib,mg,ac,bc))
    else if (decide (ac<7)&&decide (bc<7))=true then pure (bx (none,out.push x,ia+1,ib,mg,ac,bc))
    else pure (bz (none,out.push x,ia+1,ib,mg,ac,bc))) Y (setG st g):=by
  intro Y out ia ib mg ac bc g hd hg hia hib iv hl;obtain⟨x1,hx1,hx1l⟩:=aQf (a:=a) (i:=ia) (by lia)
  refine ax (aZb hx1 ?_);have iv2:Iv lt (a.toList++b.toList) (out.push x1).toList (a.toList.drop (ia+1)++b.toList.drop ib):=by
   rw[cm];exact iv.pushA sa hx1l (hl x1 hx1l)
  have sp:(out.push x1).size=out.size+1:=dj ..
  by_cases c1:(ia+1+1==a.size)=true
  ·refine aQu c1 ?_;exact aC (hd _ _ (finL _ _ _ g (by simpa using c1) iv2))
  ·refine aQv c1 ?_;have c1':ia+1+1≠a.size:=by simpa using c1
   have:=hg (out.push x1) (ia+1) ib ac bc (by lia) hib iv2 (by lia)
   by_cases c2:(decide (ac<7)&&decide (bc<7))=true
   ·refine aQu c2 ?_;exact aC this.1
   ·refine aQv c2 ?_;exact aC this.2
 have t1:∀(Y:ForInStep (Option (Array aJ)×Array aJ×Nat×Nat×Nat×Nat×Nat)->cM->Prop) (out:Array aJ) (ia ib mg ac bc g:Nat),(∀r c',Q r (setG st g)->Y (.done (some r,c')) (setG st g)) ->
   (∀D B J ac' bc',B+1<a.size->J<b.size->Iv lt (a.toList++b.toList) D.toList (a.toList.drop B++b.toList.drop J)->out.size<=D.size->Y (.done (none,D,B,J,mg,ac',bc')) (setG st g)/\Y (.yield (none,D,B,J,mg,ac',bc')) (setG st g)) ->
   ia+1<a.size->ib<b.size->Iv lt (a.toList++b.toList) out.toList (a.toList.drop ia++b.toList.drop ib)->(∀y,b.toList[ib]?=some y->∀u∈a.toList.drop ia,lt u y=false) ->
   wpS (aB prog w) A E s (do
    let y <- d3 b ib
    if (ib+1==b.size)=true then pure (bx (some (out.push y++a.extract ia a.size++b.extract (ib+1) b.size),out.push y,ia,ib+1,mg,ac,bc))
    else do
     let x <- d3 a ia
     let z <- gal true x b (ib+1) (b.size-(ib+1)) 0
     match z with
     |some k1 =>
      if k1>0 then
       if (ib+1+k1==b.size)=true then pure (bx (some (out.push y++b.extract (ib+1) (ib+1+k1)++a.extract ia a.size++b.extract (ib+1+k1) b.size),out.push y++b.extract (ib+1) (ib+1+k1),ia,ib+1+k1,mg,ac,k1))
       else do
        let x <- d3 a ia
        if (ia+1+1==a.size)=true then pure (bx (some ((out.push y++b.extract (ib+1) (ib+1+k1)).push x++b.extract (ib+1+k1) b.size++a.extract (ia+1) a.size),(out.push y++b.extract (ib+1) (ib+1+k1)).push x,ia+1,ib+1+k1,mg,ac,k1))
        else if (decide (ac<7)&&decide (k1<7))=true then pure (bx (none,(out.push y++b.extract (ib+1) (ib+1+k1)).push x,ia+1,ib+1+k1,mg,ac,k1))
        else pure (bz (none,(out.push y++b.extract (ib+1) (ib+1+k1)).push x,ia+1,ib+1+k1,mg,ac,k1))
      else do
       let x <- d3 a ia
       if (ia+1+1==a.size)=true then pure (bx (some ((out.push y).push x++b.extract (ib+1) b.size++a.extract (ia+1) a.size),(out.push y).push x,ia+1,ib+1,mg,ac,k1))
       else if (decide (ac<7)&&decide (k1<7))=true then pure (bx (none,(out.push y).push x,ia+1,ib+1,mg,ac,k1))
       else pure (bz (none,(out.push y).push x,ia+1,ib+1,mg,ac,k1))
     |_=>pure (bx (some (out.push y++a.extract ia a.size++b.extract (ib+1) b.size),out.push y,ia,ib+1,mg,ac,bc))) Y (setG st g):=by
  intro Y out ia ib mg ac bc g hd hg hia hib iv hl;obtain⟨y1,hy1,Z⟩:=aQf (a:=b) (i:=ib) hib;obtain⟨x1,hx1,hx1l⟩:=aQf (a:=a) (i:=ia) (by lia)
  have px1:=pa x1 (ao hx1l);refine ax (aZb hy1 ?_);have iv2:Iv lt (a.toList++b.toList) (out.push y1).toList (a.toList.drop ia++b.toList.drop (ib+1)):=by
   rw[cm];exact iv.pushB sb Z (hl y1 Z)
  have sp:(out.push y1).size=out.size+1:=dj ..
  by_cases c1:(ib+1==b.size)=true
  ·refine aQu c1 ?_;exact aC (hd _ _ (finA _ _ _ g (by simpa using c1) iv2))
  refine aQv c1 ?_;have c1':ib+1≠b.size:=by simpa using c1
  refine ax (aZb hx1 (ax (bQb o (f:=λi=>b.toList.getD (ib+1+i) (.none,.none)) hk px1 (λi hi=>?_) (λi j hij hj hb=>?_) (by lia) λk k1 k2 k3=>?_)))
  ·obtain⟨z,hz,L⟩:=aQf (a:=b) (i:=ib+1+i) (by lia)
   rw[am,L];exact⟨hz,pb z (ao L)⟩
  ·obtain⟨z,hz,L⟩:=aQf (a:=b) (i:=ib+1+i) (by lia)
   obtain⟨z',hz',hzl'⟩:=aQf (a:=b) (i:=ib+1+j) (by lia)
   rw[am,hzl'] at hb;rw[am,L];have hb':lt z' x1=true:=hb;show lt z x1=true;cases e:lt z x1 with
   |true=>rfl
   |false =>
    exfalso;have pz:=pb z (ao L);have pz':=pb z' (ao hzl');rcases Nat.eq_or_lt_of_le hij with rfl|hlt
    ·rw[L] at hzl';cases hzl';rw[e] at hb';cases hb'
    ·have:=o.tr x1 z z' px1 pz pz' e (sb.at (by lia) L hzl')
     rw[hb'] at this;cases this
  have behind:∀j y,ib+1+k<=j->b.toList[j]?=some y->lt y x1=false:=λj y hj hy=>by
   have hjb:j<b.size:=by have:=(aD.mp hy).1;simpa using this
   have:=k3 (j-(ib+1)) (by lia) (by lia)
   rw[am,show ib+1+(j-(ib+1))=j by lia,hy] at this
   exact this
  dsimp only
  by_cases ck:k>0
  ·refine aQu ck ?_;have iv3:Iv lt (a.toList++b.toList) (out.push y1++b.extract (ib+1) (ib+1+k)).toList (a.toList.drop ia++b.toList.drop (ib+1+k)):=by
    rw[cG,aZf,show ib+1+k-(ib+1)=k by lia]
    refine iv2.blockB sb k λz hz u hu=>?_;obtain⟨j,hj,L⟩:=aZl hz;have pz:=pb z (ao L);have hb:=k2 j hj;rw[am,L] at hb;exact bZp o pa sa pz hx1l (o.as _ _ pz px1 hb) u hu
   have sz3:out.size<=(out.push y1++b.extract (ib+1) (ib+1+k)).size:=by rw[dH];lia
   by_cases c3:(ib+1+k==b.size)=true
   ·refine aQu c3 ?_;exact aC (hd _ _ (finA _ _ _ g (by simpa using c3) iv3))
   ·refine aQv c3 ?_;have c3':ib+1+k≠b.size:=by simpa using c3
    refine t2 Y _ ia (ib+1+k) mg ac k g hd (λo' i1 i2 a1 b1 q1 q2 q3 q4=>hg o' i1 i2 a1 b1 q1 q2 q3 (by lia)) hia (by lia) iv3 λx hx u hu=>?_
    rw[hx1l] at hx;cases hx;obtain⟨j,hj,e⟩:=aQq hu;exact behind j u hj e
  ·refine aQv ck ?_;have k0:k=0:=by lia
   refine t2 Y _ ia (ib+1) mg ac k g hd (λo' i1 i2 a1 b1 q1 q2 q3 q4=>hg o' i1 i2 a1 b1 q1 q2 q3 (by lia)) hia (by lia) iv2 λx hx u hu=>?_
   rw[hx1l] at hx;cases hx;obtain⟨j,hj,e⟩:=aQq hu;exact behind j u (by lia) e
 rw[eZj];refine ax (ig (cx ⟨rfl,?_⟩));dsimp only;obtain⟨y0,hy0,hy0l⟩:=aQf (a:=b) (i:=0) nb;refine ax (aZb hy0 ?_);have iv0:Iv lt (a.toList++b.toList) (#[y0]:Array aJ).toList (a.toList.drop 0++b.toList.drop 1):=by
  have i0:Iv lt (a.toList++b.toList) [] (a.toList.drop 0++b.toList.drop 0):=⟨by simp,fV,by simp⟩
  exact i0.pushB sb hy0l λu hu=>hfst y0 hy0l u hu
 have est:st=setG st (gallopOf st):=rfl
 by_cases hb1:(1==b.size)=true
 ·refine aQu hb1 ?_;refine aC ?_;rw[est];exact finA _ 0 1 _ (by simpa using hb1) iv0
 refine aQv hb1 ?_
 by_cases ha1:(0+1==a.size)=true
 ·refine aQu ha1 ?_;refine aC ?_;rw[est];exact finL _ 0 1 _ (by simpa using ha1) iv0
 refine aQv ha1 ?_;have hb2:1<b.size:=by
  have:1≠b.size:=by simpa using hb1
  lia
 have ha2:0+1<a.size:=by
  have:0+1≠a.size:=by simpa using ha1
  lia
 refine ax (gU ?_);refine ax (c7 (bF (I:=λx c N=>∃ out ia ib mg g,c=(none,out,ia,ib,mg)/\N=setG st g/\ia + 1 < a.size/\ib < b.size/\Iv lt (a.toList++b.toList) out.toList (a.toList.drop ia++b.toList.drop ib)/\x + 1<=out.size)
  (Q:=λc N=>∃r,c.fst=some r/\Q r N) ?_ ?_ ⟨#[y0],0,1,_,_,rfl,est,ha2,hb2,iv0,by simp⟩) ?_)
 ·intro x c N _ hx zq;refine hd λGq kq=>?_;obtain⟨out,ia,ib,mg,g,rfl,rfl,hia,hib,iv,hsz⟩:=zq;refine kq ?_;dsimp only;refine ax (c7 (bF (I:=λy c N=>∃ D B J ac bc,c=(none,D,B,J,ac,bc)/\N=setG st g/\B + 1 < a.size/\J < b.size/\Iv lt (a.toList++b.toList) D.toList (a.toList.drop B++b.toList.drop J)/\out.size + y<=D.size)
   (Q:=λc N=>N=setG st g/\((∃r,c.fst=some r/\Q r N)\/∃D B J ac bc,c=(none,D,B,J,ac,bc)/\B+1<a.size/\J<b.size/\Iv lt (a.toList++b.toList) D.toList (a.toList.drop B++b.toList.drop J)/\out.size+1<=D.size)) ?_ ?_ ⟨out,ia,ib,0,0,rfl,rfl,hia,hib,iv,Nat.le_refl _⟩) ?_)
  ·intro y c N _ hy zq;refine hd λGq kq=>?_;obtain⟨D,B,J,ac,bc,rfl,rfl,hia',O,iv',hsz'⟩:=zq;refine kq ?_;obtain⟨x1,hx1,hx1l⟩:=aQf (a:=a) (i:=B) (by lia)
   obtain⟨y1,hy1,Z⟩:=aQf (a:=b) (i:=J) O;have px1:=pa x1 (ao hx1l);have py1:=pb y1 (ao Z);dsimp only;refine ax (aZb hy1 (ax (aZb hx1 (ax (cZa o hk py1 px1 ?_)))));dsimp only;cases e:lt y1 x1 with
   |true =>
    refine aQu rfl ?_;refine ax (aZb hy1 ?_);have iv2:Iv lt (a.toList++b.toList) (D.push y1).toList (a.toList.drop B++b.toList.drop (J+1)):=by
     rw[cm];exact iv'.pushB sb Z (bZp o pa sa py1 hx1l (o.as _ _ py1 px1 e))
    have sp:(D.push y1).size=D.size+1:=dj ..
    by_cases c1:(J+1==b.size)=true
    ·refine aQu c1 ?_;exact aC ⟨rfl,.inl ⟨_,rfl,finA _ _ _ g (by simpa using c1) iv2⟩⟩
    ·refine aQv c1 ?_;have c1':J+1≠b.size:=by simpa using c1
     by_cases c2:bc+1>=mg
     ·refine aQu c2 ?_;exact aC ⟨rfl,.inr ⟨_,_,_,_,_,rfl,hia',by lia,iv2,by lia⟩⟩
     ·refine aQv c2 ?_;exact aC ⟨_,_,_,_,_,rfl,rfl,hia',by lia,iv2,by lia⟩
   |false =>
    refine aQv (by simp) ?_
    refine ax (aZb hx1 ?_);have iv2:Iv lt (a.toList++b.toList) (D.push x1).toList (a.toList.drop (B+1)++b.toList.drop J):=by
     rw[cm];exact iv'.pushA sa hx1l (bZp o pb sb px1 Z e)
    have sp:(D.push x1).size=D.size+1:=dj ..
    by_cases c1:(B+1+1==a.size)=true
    ·refine aQu c1 ?_;exact aC ⟨rfl,.inl ⟨_,rfl,finL _ _ _ g (by simpa using c1) iv2⟩⟩
    ·refine aQv c1 ?_;have c1':B+1+1≠a.size:=by simpa using c1
     by_cases c2:ac+1>=mg
     ·refine aQu c2 ?_;exact aC ⟨rfl,.inr ⟨_,_,_,_,_,rfl,by lia,O,iv2,by lia⟩⟩
     ·refine aQv c2 ?_;exact aC ⟨_,_,_,_,_,rfl,rfl,by lia,O,iv2,by lia⟩
  ·intro c N zq;refine hd λGq kq=>?_;obtain⟨D,B,J,ac,bc,rfl,rfl,hia',O,iv',hsz'⟩:=zq;refine kq ?_;exact⟨rfl,.inr ⟨_,_,_,_,_,rfl,hia',O,iv',by lia⟩⟩
  ·rintro c N ⟨rfl,⟨r,hr,q⟩|⟨out1,ia1,ib1,ac1,bc1,rfl,hia1,hib1,iv1,hsz1⟩⟩
   ·obtain⟨c1,c2⟩:=c;dsimp only at hr;subst hr;exact aC ⟨r,rfl,q⟩
   ·dsimp only;refine ax (ig (cx ⟨rfl,?_⟩));refine ax (c7 (bF (I:=λy c N=>∃ D B J mg' ac bc g',c=(none,D,B,J,mg',ac,bc)/\N=setG st g'/\B + 1 < a.size/\J < b.size/\Iv lt (a.toList++b.toList) D.toList (a.toList.drop B++b.toList.drop J)/\out1.size<=D.size)
     (Q:=λc N=>(∃r,c.fst=some r/\Q r N)\/∃D B J mg' ac bc g',c=(none,D,B,J,mg',ac,bc)/\N=setG st g'/\B+1<a.size/\J<b.size/\Iv lt (a.toList++b.toList) D.toList (a.toList.drop B++b.toList.drop J)/\out1.size<=D.size) ?_ ?_ ⟨out1,ia1,ib1,_,ac1,bc1,g,rfl,rfl,hia1,hib1,iv1,Nat.le_refl _⟩) ?_)
    ·intro y c N _ hy zq;refine hd λGq kq=>?_;obtain⟨D,B,J,mg',ac,bc,g',rfl,rfl,hia',O,iv',hsz'⟩:=zq;refine kq ?_;dsimp only;obtain⟨y1,hy1,Z⟩:=aQf (a:=b) (i:=J) O;have py1:=pb y1 (ao Z);have fa:∀i,i<a.size-B->a[B+i]?=some (a.toList.getD (B+i) (.none,.none))/\P (a.toList.getD (B+i) (.none,.none)):=λi hi=>by
      obtain⟨z,hz,L⟩:=aQf (a:=a) (i:=B+i) (by lia)
      rw[am,L];exact⟨hz,pa z (ao L)⟩
     have mono:∀i j,i<=j->j<a.size-B->bv lt false y1 (a.toList.getD (B+j) (.none,.none))=true->bv lt false y1 (a.toList.getD (B+i) (.none,.none))=true:=λi j hij hj hb=>by
      obtain⟨z,hz,L⟩:=aQf (a:=a) (i:=B+i) (by lia)
      obtain⟨z',hz',hzl'⟩:=aQf (a:=a) (i:=B+j) (by lia)
      rw[am,hzl'] at hb;rw[am,L];have hb':lt y1 z'=false:=by simpa [bv] using hb
      show(!lt y1 z)=true;rcases Nat.eq_or_lt_of_le hij with rfl|hlt
      ·rw[L] at hzl';cases hzl';rw[hb'];rfl
      ·rw[o.tr z z' y1 (pa z (ao L)) (pa z' (ao hzl')) py1 (sa.at (by lia) L hzl') hb'];rfl
     clear kq
     revert mg'
     refine dQr (λ_=>rfl) λm2=>?_;refine ax (cN (ax (aZb hy1 (ax (bQb o (f:=λi=>a.toList.getD (B+i) (.none,.none)) hk py1 fa mono (by lia) λk k1 k2 k3=>?_)))))
     dsimp only;have behind:∀j z,B+k<=j->a.toList[j]?=some z->lt z y1=false:=λj z hj hz=>by
      have hja:j<a.size:=by have:=(aD.mp hz).1;simpa using this
      have:=k3 (j-B) (by lia) (by lia)
      rw[am,show B+(j-B)=j by lia,hz] at this
      have h1:(!lt y1 z)=false:=this;exact o.as _ _ py1 (pa z (ao hz)) (by simpa using h1)
     by_cases ck:k>0
     ·refine aQu ck ?_;have iv3:Iv lt (a.toList++b.toList) (D++a.extract B (B+k)).toList (a.toList.drop (B+k)++b.toList.drop J):=by
       rw[cG,aZf,show B+k-B=k by lia]
       refine iv'.blockA sa k λz hz u hu=>?_;obtain⟨j,hj,L⟩:=aZl hz;have hb:=k2 j hj;rw[am,L] at hb;have h1:(!lt y1 z)=true:=hb;exact bZp o pb sb (pa z (ao L)) Z (by simpa using h1) u hu
      have sz3:out1.size<=(D++a.extract B (B+k)).size:=by rw[dH];lia
      by_cases c3:(B+k+1==a.size)=true
      ·refine aQu c3 ?_;exact aC (.inl ⟨_,rfl,finL _ _ _ _ (by simpa using c3) iv3⟩)
      ·refine aQv c3 ?_;have c3':B+k+1≠a.size:=by simpa using c3
       by_cases c4:(B+k==a.size)=true
       ·refine aQu c4 ?_;exact aC (.inl ⟨_,rfl,finB _ _ _ _ (by simpa using c4) iv3⟩)
       ·refine aQv c4 ?_;have c4':B+k≠a.size:=by simpa using c4
        refine t1 _ _ (B+k) J m2 k bc m2 (λr c' q=>.inl ⟨r,rfl,q⟩) (λo' i1 i2 a1 b1 q1 q2 q3 q4=>⟨.inr ⟨_,_,_,_,_,_,_,rfl,rfl,q1,q2,q3,by lia⟩,⟨_,_,_,_,_,_,_,rfl,rfl,q1,q2,q3,by lia⟩⟩) (by lia) O iv3 λy hy u hu=>?_
        rw[Z] at hy;cases hy;obtain⟨j,hj,e⟩:=aQq hu;exact behind j u hj e
     ·refine aQv ck ?_;refine t1 _ _ B J m2 k bc m2 (λr c' q=>.inl ⟨r,rfl,q⟩) (λo' i1 i2 a1 b1 q1 q2 q3 q4=>⟨.inr ⟨_,_,_,_,_,_,_,rfl,rfl,q1,q2,q3,by lia⟩,⟨_,_,_,_,_,_,_,rfl,rfl,q1,q2,q3,by lia⟩⟩) hia' O iv' λy hy u hu=>?_
      rw[Z] at hy;cases hy;obtain⟨j,hj,e⟩:=aQq hu;exact behind j u (by lia) e
    ·intro c N zq;refine hd λGq kq=>?_;obtain⟨D,B,J,mg',ac,bc,g',rfl,rfl,hia',O,iv',hsz'⟩:=zq;refine kq ?_;exact .inr ⟨_,_,_,_,_,_,_,rfl,rfl,hia',O,iv',hsz'⟩
    ·rintro c N (⟨r,hr,q⟩|⟨D,B,J,mg',ac,bc,g',rfl,rfl,hia',O,iv',hsz'⟩)
     ·obtain⟨c1,c2⟩:=c;dsimp only at hr;subst hr;exact aC ⟨r,rfl,q⟩
     ·dsimp only;exact ax (cN (aC ⟨_,_,_,_,_,rfl,rfl,hia',O,iv',by lia⟩))
 ·intro c N zq;refine hd λGq kq=>?_;obtain⟨out,ia,ib,mg,g,rfl,rfl,hia,hib,iv,hsz⟩:=zq;refine kq ?_;exfalso
  have:=iv.size
  rw[sz,aH] at this;lia
 ·rintro c N ⟨r,hr,q⟩;obtain⟨c1,c2⟩:=c;dsimp only at hr;subst hr;exact aC q
end
theorem eZl(a b:Array aJ):mHi a b=(do
 rule "list.sort.merge-hi"
 let total:=a.size+b.size
 let fin (o:Array aJ) (na nb:Nat):=a.extract 0 na++b.extract 0 nb++o.reverse
 let fst (o:Array aJ) (na nb:Nat):=b.extract 0 nb++a.extract 0 na++o.reverse
 let mut na:=a.size-1
 let mut nb:=b.size
 let mut out:Array aJ:=#[<- d3 a na]
 if na==0 then return fin out na nb
 if nb==1 then return fst out na nb
 let mut minGallop:=gallopOf (<- get)
 for _ in [0:total] do
  let mut acount:=0
  let mut bcount:=0
  for _ in [0:total] do
   let some aw <- lt' (<- d3 b (nb-1)) (<- d3 a (na-1))|return fin out na nb
   if aw then
    na:=na-1
    out:=out.push (<- d3 a na)
    acount:=acount+1
    bcount:=0
    if na==0 then return fin out na nb
    if acount>=minGallop then break
   else
    nb:=nb-1
    out:=out.push (<- d3 b nb)
    bcount:=bcount+1
    acount:=0
    if nb==1 then return fst out na nb
    if bcount>=minGallop then break
  rule "list.sort.gallop"
  minGallop:=minGallop+1
  for _ in [0:total] do
   if minGallop>1 then minGallop:=minGallop-1
   modify (λs=>setG s minGallop)
   let some p <- gal false (<- d3 b (nb-1)) a 0 na (na-1)|return fin out na nb
   let k:=na-p
   acount:=k
   if k>0 then
    out:=out++(a.extract p na).reverse
    na:=p
    if na==0 then return fin out na nb
   nb:=nb-1
   out:=out.push (<- d3 b nb)
   if nb==1 then return fst out na nb
   let some p <- gal true (<- d3 a (na-1)) b 0 nb (nb-1)|return fin out na nb
   let k:=nb-p
   bcount:=k
   if k>0 then
    out:=out++(b.extract p nb).reverse
    nb:=p
    if nb==1 then return fst out na nb
    if nb==0 then return fin out na nb
   na:=na-1
   out:=out.push (<- d3 a na)
   if na==0 then return fin out na nb
   if acount<7&&bcount<7 then break
  minGallop:=minGallop+1
  modify (λs=>setG s minGallop)
 gJ "internal:list.sort.merge-bound"):=rfl
section
variable{α:Type}{lt:α->α->Bool}{T out rest:List α}
abbrev rl(lt:α->α->Bool):α->α->Bool:=λx y=>lt y x
theorem Iv.doneR(h:Iv (rl lt) T out rest){l:List α}(hp:l.Perm rest)(hs:Sd lt l):Sd lt (l++out.reverse)/\(l++out.reverse).Perm T:=by
 refine⟨be.mpr ⟨hs,gj.mpr h.sd,λx B y j=>h.lo y (iT.mp j) x (hp.mem_iff.mp B)⟩,?_⟩;exact(jq.append hp (iA out)).trans (cY.trans h.perm)
theorem bXg{l:List α}{i:Nat}{x:α}(h:l[i]?=some x):l.take (i+1)=l.take i++[x]:=by rw[cI,h];rfl
theorem Sd.take{l:List α}(h:Sd lt l)(i:Nat):Sd lt (l.take i):=h.sublist (dG _ _)
theorem aQs{l:List α}{i:Nat}{y:α}(h:y∈l.take i):∃j,j<i/\l[j]?=some y:=by
 obtain⟨k,B,e⟩:=cg h;rw[a6] at B;rw[iz] at e;exact⟨k,by lia,by rw[ag (by lia),e]⟩
end
section
variable{prog:aE}{w:aQ}{A:aW}{s:ah}{κ:eD}{P:aJ->Prop}{lt:aJ->aJ->Bool}{T out la lb:List aJ}{na nb:Nat}{x y:aJ}
theorem bZq(o:Orc prog w A s κ P lt){l:List aJ}(hP:∀z∈l,P z)(hs:Sd lt l){i:Nat}{z:aJ}(hz:P z){y:aJ}(hy:l[i]?=some y)(h:lt z y=false):∀u∈l.take (i+1),lt z u=false:=λu D=>by
 obtain⟨j,J,e⟩:=aQs D;rcases Nat.eq_or_lt_of_le (Nat.le_of_lt_succ J) with rfl|B
 ·rw[hy] at e;cases e;exact h
 ·exact o.tr u y z (hP u (ao e)) (hP y (ao hy)) hz (hs.at B e hy) h
theorem Iv.popA(h:Iv (rl lt) T out (la.take (na+1)++lb.take nb))(sa:Sd lt la)(hx:la[na]?=some x)(hl:∀u∈lb.take nb,lt x u=false):Iv (rl lt) T (out++[x]) (la.take na++lb.take nb):=by
 refine h.step ?_ (bY _ _) λz B u D=>?_
 ·rw[bXg hx,aY];exact gv
 ·rw[aL.mp B];rcases aN.mp D with v|v
  ·obtain⟨j,J,e⟩:=aQs v;exact sa.at J e hx
  ·exact hl u v
theorem Iv.popB(h:Iv (rl lt) T out (la.take na++lb.take (nb+1)))(sb:Sd lt lb)(hy:lb[nb]?=some y)(hl:∀u∈la.take na,lt y u=false):Iv (rl lt) T (out++[y]) (la.take na++lb.take nb):=by
 refine h.step ?_ (bY _ _) λz B u D=>?_
 ·rw[bXg hy,<- aY];exact cY
 ·rw[aL.mp B];rcases aN.mp D with v|v
  ·exact hl u v
  ·obtain⟨j,J,e⟩:=aQs v;exact sb.at J e hy
theorem cZb(l:List aJ){p n:Nat}(h:p<=n):l.take n=l.take p++(l.drop p).take (n-p):=by
 have:n=p+(n-p):=by lia
 rw[this,List.take_add];simp
theorem Iv.backA(h:Iv (rl lt) T out (la.take na++lb.take nb))(sa:Sd lt la){p:Nat}(hp:p<=na)(hl:∀z∈(la.drop p).take (na-p),∀u∈lb.take nb,lt z u=false):Iv (rl lt) T (out++((la.drop p).take (na-p)).reverse) (la.take p++lb.take nb):=by
 have e:=cZb la hp;have sd:=sa.take na;rw[e] at sd;obtain⟨_,s2,s3⟩:=be.mp sd;refine h.step ?_ (gj.mpr s2) λz j u B=>?_
 ·rw[e,aY];refine(List.perm_append_comm_assoc _ _ _).trans ?_;exact dR _ (iA _).symm
 ·have j:=iT.mp j;rcases aN.mp B with v|v
  ·exact s3 u v z j
  ·exact hl z j u v
theorem Iv.backB(h:Iv (rl lt) T out (la.take na++lb.take nb))(sb:Sd lt lb){p:Nat}(hp:p<=nb)(hl:∀z∈(lb.drop p).take (nb-p),∀u∈la.take na,lt z u=false):Iv (rl lt) T (out++((lb.drop p).take (nb-p)).reverse) (la.take na++lb.take p):=by
 have e:=cZb lb hp;have sd:=sb.take nb;rw[e] at sd;obtain⟨_,s2,s3⟩:=be.mp sd;refine h.step ?_ (gj.mpr s2) λz j u B=>?_
 ·rw[e,<- aY];refine cY.trans ?_;exact dR _ (iA _).symm
 ·have j:=iT.mp j;rcases aN.mp B with v|v
  ·exact hl z j u v
  ·exact s3 u v z j
end
theorem dQs(a:Array aJ)(n:Nat):(a.extract 0 n).toList=a.toList.take n:=by rw[aZf];simp
section
variable{prog:aE}{w:aQ}{A:aW}{E:ad->ah->Prop}{s:ah}{κ:eD}{P:aJ->Prop}{lt:aJ->aJ->Bool}
theorem eZm(o:Orc prog w A s κ P lt){st:cM}{a b:Array aJ}{Q:Array aJ->cM->Prop}(hk:kindOf st=κ)(pa:∀x∈a.toList,P x)(pb:∀y∈b.toList,P y)(sa:Sd lt a.toList)(sb:Sd lt b.toList)(na0:1<=a.size)(nb0:1<=b.size)
  (hfst:∀y,b.toList[0]?=some y->∀x∈a.toList,lt x y=false) (hlst:∀z,a.toList[a.size-1]?=some z->∀y∈b.toList,lt z y=false)
  (h:∀out g,Sd lt out.toList->out.toList.Perm (a.toList++b.toList)->Q out (setG st g)):wpS (aB prog w) A E s (mHi a b) Q st:=by
 have sz:(a.toList++b.toList).length=a.size+b.size:=by simp
 have finG:∀(out:Array aJ) na nb g,Sd lt (a.toList.take na++b.toList.take nb)->Iv (rl lt) (a.toList++b.toList) out.toList (a.toList.take na++b.toList.take nb)->Q (a.extract 0 na++b.extract 0 nb++out.reverse) (setG st g):=λout na nb g e iv=>by
  have:=iv.doneR (dE _) e
  refine h _ g ?_ ?_ <;> simp only[cG,fi,dQs]
  ·exact this.1
  ·exact this.2
 have finF:∀(out:Array aJ) na nb g,nb=1->Iv (rl lt) (a.toList++b.toList) out.toList (a.toList.take na++b.toList.take nb)->Q (b.extract 0 nb++a.extract 0 na++out.reverse) (setG st g):=λout na nb g e iv=>by
  obtain⟨y0,hy0,hy0l⟩:=aQf (a:=b) (i:=0) nb0;have e1:b.toList.take nb=[y0]:=by rw[e];exact(bXg (i:=0) hy0l)
  have sd:Sd lt (b.toList.take nb++a.toList.take na):=by
   rw[e1];exact a8.mpr ⟨λu hu=>hfst y0 hy0l u (cr hu),sa.take na⟩
  have:=iv.doneR cY sd
  refine h _ g ?_ ?_ <;> simp only[cG,fi,dQs]
  ·exact this.1
  ·exact this.2
 have t2:∀(N:ForInStep (Option (Array aJ)×Nat×Nat×Array aJ×Nat×Nat×Nat)->cM->Prop) (out:Array aJ) (na nb mg ac bc g:Nat),(∀r c',Q r (setG st g)->N (.done (some r,c')) (setG st g)) ->
   (∀na' D B ac' bc',1<=na'->(na'<=a.size/\2<=D/\D<=b.size)->Iv (rl lt) (a.toList++b.toList) B.toList (a.toList.take na'++b.toList.take D)->out.size<=B.size->N (.done (none,na',D,B,mg,ac',bc')) (setG st g)/\N (.yield (none,na',D,B,mg,ac',bc')) (setG st g)) ->
   1<=na->na<=a.size->(2<=nb/\nb<=b.size)->Iv (rl lt) (a.toList++b.toList) out.toList (a.toList.take na++b.toList.take nb)->(∀x,a.toList[na-1]?=some x->∀u∈b.toList.take nb,lt x u=false) ->
   wpS (aB prog w) A E s (do
    let x <- d3 a (na-1)
    if (na-1==0)=true then pure (bx (some (a.extract 0 (na-1)++b.extract 0 nb++((out).push x).reverse),na-1,nb,(out).push x,mg,ac,bc))
    else if (decide (ac<7)&&decide (bc<7))=true then pure (bx (none,na-1,nb,(out).push x,mg,ac,bc))
    else pure (bz (none,na-1,nb,(out).push x,mg,ac,bc))) N (setG st g):=by
  intro N out na nb mg ac bc g hd hg hna hla hnb iv hl;obtain⟨m,rfl⟩:∃m,na=m+1:=⟨na-1,by lia⟩
  simp only[Nat.add_sub_cancel] at hl ⊢;obtain⟨x1,hx1,Y⟩:=aQf (a:=a) (i:=m) (by lia)
  refine ax (aZb hx1 ?_);have iv2:Iv (rl lt) (a.toList++b.toList) (out.push x1).toList (a.toList.take m++b.toList.take nb):=by
   rw[cm];exact iv.popA sa Y (hl x1 Y)
  have sp:(out.push x1).size=out.size+1:=dj ..
  by_cases c1:(m==0)=true
  ·have m0:m=0:=by simpa using c1
   refine aQu c1 ?_;refine aC (hd _ _ (finG _ _ _ g ?_ iv2));rw[m0];exact sb.take _
  ·refine aQv c1 ?_;have c1':m≠0:=by simpa using c1
   have:=hg m nb (out.push x1) ac bc (by lia) ⟨by lia,hnb⟩ iv2 (by lia)
   by_cases c2:(decide (ac<7)&&decide (bc<7))=true
   ·refine aQu c2 ?_;exact aC this.1
   ·refine aQv c2 ?_;exact aC this.2
 have t1:∀(N:ForInStep (Option (Array aJ)×Nat×Nat×Array aJ×Nat×Nat×Nat)->cM->Prop) (out:Array aJ) (na nb mg ac bc g:Nat),(∀r c',Q r (setG st g)->N (.done (some r,c')) (setG st g)) ->
   (∀na' D B ac' bc',1<=na'->(na'<=a.size/\2<=D/\D<=b.size)->Iv (rl lt) (a.toList++b.toList) B.toList (a.toList.take na'++b.toList.take D)->out.size<=B.size->N (.done (none,na',D,B,mg,ac',bc')) (setG st g)/\N (.yield (none,na',D,B,mg,ac',bc')) (setG st g)) ->
   1<=na->na<=a.size->(2<=nb/\nb<=b.size)->Iv (rl lt) (a.toList++b.toList) out.toList (a.toList.take na++b.toList.take nb)->(∀y,b.toList[nb-1]?=some y->∀u∈a.toList.take na,lt y u=false) ->
   wpS (aB prog w) A E s (do
    let y <- d3 b (nb-1)
    if (nb-1==1)=true then pure (bx (some (b.extract 0 (nb-1)++a.extract 0 na++(out.push y).reverse),na,nb-1,out.push y,mg,ac,bc))
    else do
     let x <- d3 a (na-1)
     let z <- gal true x b 0 (nb-1) (nb-1-1)
     match z with
     |some Z =>
      if nb-1-Z>0 then
       if (Z==1)=true then pure (bx (some (b.extract 0 Z++a.extract 0 na++(out.push y++(b.extract Z (nb-1)).reverse).reverse),na,Z,out.push y++(b.extract Z (nb-1)).reverse,mg,ac,nb-1-Z))
       else if (Z==0)=true then pure (bx (some (a.extract 0 na++b.extract 0 Z++(out.push y++(b.extract Z (nb-1)).reverse).reverse),na,Z,out.push y++(b.extract Z (nb-1)).reverse,mg,ac,nb-1-Z))
       else do
        let x <- d3 a (na-1)
        if (na-1==0)=true then pure (bx (some (a.extract 0 (na-1)++b.extract 0 Z++((out.push y++(b.extract Z (nb-1)).reverse).push x).reverse),na-1,Z,(out.push y++(b.extract Z (nb-1)).reverse).push x,mg,ac,(nb-1-Z)))
        else if (decide (ac<7)&&decide ((nb-1-Z)<7))=true then pure (bx (none,na-1,Z,(out.push y++(b.extract Z (nb-1)).reverse).push x,mg,ac,(nb-1-Z)))
        else pure (bz (none,na-1,Z,(out.push y++(b.extract Z (nb-1)).reverse).push x,mg,ac,(nb-1-Z)))
      else do
       let x <- d3 a (na-1)
       if (na-1==0)=true then pure (bx (some (a.extract 0 (na-1)++b.extract 0 (nb-1)++((out.push y).push x).reverse),na-1,(nb-1),(out.push y).push x,mg,ac,(nb-1-Z)))
       else if (decide (ac<7)&&decide ((nb-1-Z)<7))=true then pure (bx (none,na-1,(nb-1),(out.push y).push x,mg,ac,(nb-1-Z)))
       else pure (bz (none,na-1,(nb-1),(out.push y).push x,mg,ac,(nb-1-Z)))
     |_=>pure (bx (some (a.extract 0 na++b.extract 0 (nb-1)++(out.push y).reverse),na,nb-1,out.push y,mg,ac,bc))) N (setG st g):=by
  intro N out na nb mg ac bc g hd hg hna hla hnb iv hl;obtain⟨m,rfl⟩:∃m,nb=m+1:=⟨nb-1,by lia⟩
  simp only[Nat.add_sub_cancel] at hl ⊢;obtain⟨y1,hy1,O⟩:=aQf (a:=b) (i:=m) (by lia)
  obtain⟨x1,hx1,Y⟩:=aQf (a:=a) (i:=na-1) (by lia)
  have px1:=pa x1 (ao Y);refine ax (aZb hy1 ?_);have iv2:Iv (rl lt) (a.toList++b.toList) (out.push y1).toList (a.toList.take na++b.toList.take m):=by
   rw[cm];exact iv.popB sb O (hl y1 O)
  have sp:(out.push y1).size=out.size+1:=dj ..
  by_cases c1:(m==1)=true
  ·refine aQu c1 ?_;exact aC (hd _ _ (finF _ _ _ g (by simpa using c1) iv2))
  refine aQv c1 ?_;have c1':m≠1:=by simpa using c1
  refine ax (aZb hx1 (ax (bQb o (f:=λi=>b.toList.getD (0+i) (.none,.none)) hk px1 (λi hi=>?_) (λi j hij hj hb=>?_) (by lia) λk k1 k2 k3=>?_)))
  ·obtain⟨z,hz,L⟩:=aQf (a:=b) (i:=0+i) (by lia)
   rw[am,L];exact⟨hz,pb z (ao L)⟩
  ·obtain⟨z,hz,L⟩:=aQf (a:=b) (i:=0+i) (by lia)
   obtain⟨z',hz',hzl'⟩:=aQf (a:=b) (i:=0+j) (by lia)
   rw[am,hzl'] at hb;rw[am,L];have hb':lt z' x1=true:=hb;show lt z x1=true;cases e:lt z x1 with
   |true=>rfl
   |false =>
    exfalso;have pz:=pb z (ao L);have pz':=pb z' (ao hzl');rcases Nat.eq_or_lt_of_le hij with rfl|hlt
    ·rw[L] at hzl';cases hzl';rw[e] at hb';cases hb'
    ·have:=o.tr x1 z z' px1 pz pz' e (sb.at (by lia) L hzl')
     rw[hb'] at this;cases this
  have ahead:∀u∈b.toList.take k,lt x1 u=false:=λu hu=>by
   obtain⟨j,hj,e⟩:=aQs hu
   have:=k2 j hj
   rw[am,Nat.zero_add,e] at this;exact o.as _ _ (pb u (ao e)) px1 this
  dsimp only
  by_cases ck:m-k>0
  ·refine aQu ck ?_;have iv3:Iv (rl lt) (a.toList++b.toList) (out.push y1++(b.extract k m).reverse).toList (a.toList.take na++b.toList.take k):=by
    rw[cG,fi,aZf];refine iv2.backB sb k1 λz hz u hu=>?_;obtain⟨j,hj,L⟩:=aZl hz;have pz:=pb z (ao L);have hb:=k3 (k+j) (by lia) (by lia)
    rw[am,Nat.zero_add,L] at hb
    have:=bZq o pa sa pz Y hb
    rw[show na-1+1=na by lia] at this
    exact this u hu
   have sz3:out.size<=(out.push y1++(b.extract k m).reverse).size:=by rw[dH];lia
   by_cases c3:(k==1)=true
   ·refine aQu c3 ?_;exact aC (hd _ _ (finF _ _ _ g (by simpa using c3) iv3))
   ·refine aQv c3 ?_;have c3':k≠1:=by simpa using c3
    by_cases c4:(k==0)=true
    ·have k0:k=0:=by simpa using c4
     refine aQu c4 ?_;refine aC (hd _ _ (finG _ _ _ g ?_ iv3));rw[k0,jl,br];exact sa.take _
    ·refine aQv c4 ?_;have c4':k≠0:=by simpa using c4
     refine t2 N _ na k mg ac (m-k) g hd (λn1 n2 o' a1 b1 q1 q2 q3 q4=>hg n1 n2 o' a1 b1 q1 q2 q3 (by lia)) hna hla ⟨by lia,by lia⟩ iv3 λx hx u hu=>?_
     rw[Y] at hx;cases hx;exact ahead u hu
  ·refine aQv ck ?_;have ek:k=m:=by lia
   refine t2 N _ na m mg ac (m-k) g hd (λn1 n2 o' a1 b1 q1 q2 q3 q4=>hg n1 n2 o' a1 b1 q1 q2 q3 (by lia)) hna hla ⟨by lia,by lia⟩ iv2 λx hx u hu=>?_
   rw[Y] at hx;cases hx;exact ahead u (by rw[ek];exact hu)
 rw[eZl];refine ax (ig (cx ⟨rfl,?_⟩));dsimp only;obtain⟨x0,hx0,hx0l⟩:=aQf (a:=a) (i:=a.size-1) (by lia)
 refine ax (aZb hx0 ?_);have iv0:Iv (rl lt) (a.toList++b.toList) (#[x0]:Array aJ).toList (a.toList.take (a.size-1)++b.toList.take b.size):=by
  have e1:a.toList.take (a.size-1+1)=a.toList:=aZ (by simp;lia)
  have e2:b.toList.take b.size=b.toList:=aZ (by simp)
  have i0:Iv (rl lt) (a.toList++b.toList) [] (a.toList.take (a.size-1+1)++b.toList.take b.size):=⟨by rw[e1,e2];exact dE _,fV,by simp⟩
  exact i0.popA sa hx0l λu hu=>hlst x0 hx0l u (cr hu)
 have est:st=setG st (gallopOf st):=rfl
 by_cases ha1:(a.size-1==0)=true
 ·refine aQu ha1 ?_;have a0:a.size-1=0:=by simpa using ha1
  refine aC ?_;rw[est];refine finG _ _ _ _ ?_ iv0;rw[a0];exact sb.take _
 refine aQv ha1 ?_
 by_cases hb1:(b.size==1)=true
 ·refine aQu hb1 ?_;refine aC ?_;rw[est];exact finF _ _ _ _ (by simpa using hb1) iv0
 refine aQv hb1 ?_;have hb2:2<=b.size:=by
  have:b.size≠1:=by simpa using hb1
  lia
 have ha2:1<=a.size-1:=by
  have:a.size-1≠0:=by simpa using ha1
  lia
 refine ax (gU ?_);refine ax (c7 (bF (I:=λx c J=>∃ na nb out mg g,c=(none,na,nb,out,mg)/\J=setG st g/\1<=na/\na<=a.size/\(2<=nb/\nb<=b.size)/\Iv (rl lt) (a.toList++b.toList) out.toList (a.toList.take na++b.toList.take nb)/\x + 1<=out.size)
  (Q:=λc J=>∃r,c.fst=some r/\Q r J) ?_ ?_ ⟨_,_,#[x0],_,_,rfl,est,ha2,by lia,⟨hb2,Nat.le_refl _⟩,iv0,by simp⟩) ?_)
 ·intro x c J _ hx zq;refine hd λGq kq=>?_;obtain⟨na,nb,out,mg,g,rfl,rfl,hna,hla,hnb,iv,hsz⟩:=zq;refine kq ?_;dsimp only;refine ax (c7 (bF (I:=λy c J=>∃ na' D B ac bc,c=(none,na',D,B,ac,bc)/\J=setG st g/\1<=na'/\na'<=a.size/\(2<=D/\D<=b.size)/\Iv (rl lt) (a.toList++b.toList) B.toList (a.toList.take na'++b.toList.take D)/\out.size + y<=B.size)
   (Q:=λc J=>J=setG st g/\((∃r,c.fst=some r/\Q r J)\/∃na' D B ac bc,c=(none,na',D,B,ac,bc)/\1<=na'/\na'<=a.size/\(2<=D/\D<=b.size)/\Iv (rl lt) (a.toList++b.toList) B.toList (a.toList.take na'++b.toList.take D)/\out.size+1<=B.size)) ?_ ?_ ⟨na,nb,out,0,0,rfl,rfl,hna,hla,hnb,iv,Nat.le_refl _⟩) ?_)
  ·intro y c J _ hy zq;refine hd λGq kq=>?_;obtain⟨na',D,B,ac,bc,rfl,rfl,hna',hla',hnb',iv',hsz'⟩:=zq;refine kq ?_;obtain⟨ma,rfl⟩:∃m,na'=m+1:=⟨na'-1,by lia⟩
   obtain⟨mb,rfl⟩:∃m,D=m+1:=⟨D-1,by lia⟩
   obtain⟨x1,hx1,Y⟩:=aQf (a:=a) (i:=ma) (by lia)
   obtain⟨y1,hy1,O⟩:=aQf (a:=b) (i:=mb) (by lia)
   have px1:=pa x1 (ao Y);have py1:=pb y1 (ao O);dsimp only;simp only[Nat.add_sub_cancel];refine ax (aZb hy1 (ax (aZb hx1 (ax (cZa o hk py1 px1 ?_)))));dsimp only;cases e:lt y1 x1 with
   |true =>
    refine aQu rfl ?_;refine ax (aZb hx1 ?_);have iv2:Iv (rl lt) (a.toList++b.toList) (B.push x1).toList (a.toList.take ma++b.toList.take (mb+1)):=by
     rw[cm];exact iv'.popA sa Y (bZq o pb sb px1 O (o.as _ _ py1 px1 e))
    have sp:(B.push x1).size=B.size+1:=dj ..
    by_cases c1:(ma==0)=true
    ·have m0:ma=0:=by simpa using c1
     refine aQu c1 ?_;refine aC ⟨rfl,.inl ⟨_,rfl,finG _ _ _ g ?_ iv2⟩⟩;rw[m0];exact sb.take _
    ·refine aQv c1 ?_;have c1':ma≠0:=by simpa using c1
     by_cases c2:ac+1>=mg
     ·refine aQu c2 ?_;exact aC ⟨rfl,.inr ⟨_,_,_,_,_,rfl,by lia,by lia,hnb',iv2,by lia⟩⟩
     ·refine aQv c2 ?_;exact aC ⟨_,_,_,_,_,rfl,rfl,by lia,by lia,hnb',iv2,by lia⟩
   |false =>
    refine aQv (by simp) ?_
    refine ax (aZb hy1 ?_);have iv2:Iv (rl lt) (a.toList++b.toList) (B.push y1).toList (a.toList.take (ma+1)++b.toList.take mb):=by
     rw[cm];exact iv'.popB sb O (bZq o pa sa py1 Y e)
    have sp:(B.push y1).size=B.size+1:=dj ..
    by_cases c1:(mb==1)=true
    ·refine aQu c1 ?_;exact aC ⟨rfl,.inl ⟨_,rfl,finF _ _ _ g (by simpa using c1) iv2⟩⟩
    ·refine aQv c1 ?_;have c1':mb≠1:=by simpa using c1
     by_cases c2:bc+1>=mg
     ·refine aQu c2 ?_;exact aC ⟨rfl,.inr ⟨_,_,_,_,_,rfl,by lia,by lia,⟨by lia,by lia⟩,iv2,by lia⟩⟩
     ·refine aQv c2 ?_;exact aC ⟨_,_,_,_,_,rfl,rfl,by lia,by lia,⟨by lia,by lia⟩,iv2,by lia⟩
  ·intro c J zq;refine hd λGq kq=>?_;obtain⟨na',D,B,ac,bc,rfl,rfl,hna',hla',hnb',iv',hsz'⟩:=zq;refine kq ?_;exact⟨rfl,.inr ⟨_,_,_,_,_,rfl,hna',hla',hnb',iv',by lia⟩⟩
  ·rintro c J ⟨rfl,⟨r,hr,q⟩|⟨na1,nb1,out1,ac1,bc1,rfl,hna1,hla1,hnb1,iv1,hsz1⟩⟩
   ·obtain⟨c1,c2⟩:=c;dsimp only at hr;subst hr;exact aC ⟨r,rfl,q⟩
   ·dsimp only;refine ax (ig (cx ⟨rfl,?_⟩));refine ax (c7 (bF (I:=λy c J=>∃ na' D B mg' ac bc g',c=(none,na',D,B,mg',ac,bc)/\J=setG st g'/\1<=na'/\(na'<=a.size/\2<=D/\D<=b.size)/\Iv (rl lt) (a.toList++b.toList) B.toList (a.toList.take na'++b.toList.take D)/\out1.size<=B.size)
     (Q:=λc J=>(∃r,c.fst=some r/\Q r J)\/∃na' D B mg' ac bc g',c=(none,na',D,B,mg',ac,bc)/\J=setG st g'/\1<=na'/\(na'<=a.size/\2<=D/\D<=b.size)/\Iv (rl lt) (a.toList++b.toList) B.toList (a.toList.take na'++b.toList.take D)/\out1.size<=B.size) ?_ ?_ ⟨na1,nb1,out1,_,ac1,bc1,g,rfl,rfl,hna1,⟨hla1,hnb1⟩,iv1,Nat.le_refl _⟩) ?_)
    ·intro y c J _ hy zq;refine hd λGq kq=>?_;obtain⟨na',D,B,mg',ac,bc,g',rfl,rfl,hna',⟨hla',hnb'⟩,iv',hsz'⟩:=zq;refine kq ?_;dsimp only;obtain⟨y1,hy1,O⟩:=aQf (a:=b) (i:=D-1) (by lia)
     have py1:=pb y1 (ao O);have fa:∀i,i<na'->a[0+i]?=some (a.toList.getD (0+i) (.none,.none))/\P (a.toList.getD (0+i) (.none,.none)):=λi hi=>by
      obtain⟨z,hz,L⟩:=aQf (a:=a) (i:=0+i) (by lia)
      rw[am,L];exact⟨hz,pa z (ao L)⟩
     have mono:∀i j,i<=j->j<na'->bv lt false y1 (a.toList.getD (0+j) (.none,.none))=true->bv lt false y1 (a.toList.getD (0+i) (.none,.none))=true:=λi j hij hj hb=>by
      obtain⟨z,hz,L⟩:=aQf (a:=a) (i:=0+i) (by lia)
      obtain⟨z',hz',hzl'⟩:=aQf (a:=a) (i:=0+j) (by lia)
      rw[am,hzl'] at hb;rw[am,L];have hb':lt y1 z'=false:=by simpa [bv] using hb
      show(!lt y1 z)=true;rcases Nat.eq_or_lt_of_le hij with rfl|hlt
      ·rw[L] at hzl';cases hzl';rw[hb'];rfl
      ·rw[o.tr z z' y1 (pa z (ao L)) (pa z' (ao hzl')) py1 (sa.at (by lia) L hzl') hb'];rfl
     clear kq
     revert mg'
     refine dQr (λ_=>rfl) λm2=>?_;refine ax (cN (ax (aZb hy1 (ax (bQb o (f:=λi=>a.toList.getD (0+i) (.none,.none)) hk py1 fa mono (by lia) λk k1 k2 k3=>?_)))))
     dsimp only;have ahead:∀u∈a.toList.take k,lt y1 u=false:=λu hu=>by
      obtain⟨j,hj,e⟩:=aQs hu
      have:=k2 j hj
      rw[am,Nat.zero_add,e] at this;have h1:(!lt y1 u)=true:=this;simpa using h1
     by_cases ck:na'-k>0
     ·refine aQu ck ?_;have iv3:Iv (rl lt) (a.toList++b.toList) (B++(a.extract k na').reverse).toList (a.toList.take k++b.toList.take D):=by
       rw[cG,fi,aZf];refine iv'.backA sa k1 λz hz u hu=>?_;obtain⟨j,hj,L⟩:=aZl hz;have hb:=k3 (k+j) (by lia) (by lia)
       rw[am,Nat.zero_add,L] at hb;have h1:(!lt y1 z)=false:=hb;have pz:=pa z (ao L)
       have:=bZq o pb sb pz O (o.as _ _ py1 pz (by simpa using h1))
       rw[show D-1+1=D by lia] at this
       exact this u hu
      have sz3:out1.size<=(B++(a.extract k na').reverse).size:=by rw[dH];lia
      by_cases c3:(k==0)=true
      ·have k0:k=0:=by simpa using c3
       refine aQu c3 ?_;refine aC (.inl ⟨_,rfl,finG _ _ _ _ ?_ iv3⟩);rw[k0];exact sb.take _
      ·refine aQv c3 ?_;have c3':k≠0:=by simpa using c3
       refine t1 _ _ k D m2 (na'-k) bc m2 (λr c' q=>.inl ⟨r,rfl,q⟩) (λn1 n2 o' a1 b1 q1 q2 q3 q4=>⟨.inr ⟨_,_,_,_,_,_,_,rfl,rfl,q1,q2,q3,by lia⟩,⟨_,_,_,_,_,_,_,rfl,rfl,q1,q2,q3,by lia⟩⟩) (by lia) (by lia) hnb' iv3 λy hy u hu=>?_
       rw[O] at hy;cases hy;exact ahead u hu
     ·refine aQv ck ?_;have ek:k=na':=by lia
      refine t1 _ _ na' D m2 (na'-k) bc m2 (λr c' q=>.inl ⟨r,rfl,q⟩) (λn1 n2 o' a1 b1 q1 q2 q3 q4=>⟨.inr ⟨_,_,_,_,_,_,_,rfl,rfl,q1,q2,q3,by lia⟩,⟨_,_,_,_,_,_,_,rfl,rfl,q1,q2,q3,by lia⟩⟩) hna' hla' hnb' iv' λy hy u hu=>?_
      rw[O] at hy;cases hy;exact ahead u (by rw[ek];exact hu)
    ·intro c J zq;refine hd λGq kq=>?_;obtain⟨na',D,B,mg',ac,bc,g',rfl,rfl,hna',hl',iv',hsz'⟩:=zq;refine kq ?_;exact .inr ⟨_,_,_,_,_,_,_,rfl,rfl,hna',hl',iv',hsz'⟩
    ·rintro c J (⟨r,hr,q⟩|⟨na',D,B,mg',ac,bc,g',rfl,rfl,hna',hl',iv',hsz'⟩)
     ·obtain⟨c1,c2⟩:=c;dsimp only at hr;subst hr;exact aC ⟨r,rfl,q⟩
     ·dsimp only;exact ax (cN (aC ⟨_,_,_,_,_,rfl,rfl,hna',hl'.1,hl'.2,iv',by lia⟩))
 ·intro c J zq;refine hd λGq kq=>?_;obtain⟨na,nb,out,mg,g,rfl,rfl,hna,hla,hnb,iv,hsz⟩:=zq;refine kq ?_;exfalso
  have:=iv.size
  rw[sz,aH] at this;lia
 ·rintro c J ⟨r,hr,q⟩;obtain⟨c1,c2⟩:=c;dsimp only at hr;subst hr;exact aC q
end
theorem eZn(i:Nat):mergeAt' i=(do
 let s <- get
 let (some (sa,na,pw),some (sb,nb,_)):=((bC s)[i]?,(bC s)[i+1]?)|gJ "internal:list.sort.pending"
 set (fj s (((bC s).setIfInBounds i (sa,na+nb,pw)).eraseIdxIfInBounds (i+1)))
 let some k <- gal false (<- d3 (aO s) sb) (aO s) sa na 0|return false
 let (sa,na):=(sa+k,na-k)
 if na==0 then return true
 let some nb <- gal true (<- d3 (aO s) (sa+na-1)) (aO s) sb nb (nb-1)|return false
 if nb==0 then return true
 let x:=(aO s).extract sa sb
 let y:=(aO s).extract sb (sb+nb)
 let m <- if na<=nb then mLo x y else mHi x y
 modify λs=>cJ s (m.toList.zipIdx.foldl (λa (p,j)=>a.setIfInBounds (sa+j) p) (aO s))
 return (fh (<- get)).isNone):=rfl
theorem dX1{M:Model}{A:aW}{E:ad->ah->Prop}{s:ah}{σ:Type}{st st':σ}{Q:PUnit->σ->Prop}(h:Q ⟨⟩ st'):wpS M A E s (set st':StateT σ Sem PUnit) Q st:=by
 unfold wpS;show aF M A (pure (PUnit.unit,st'):Sem (PUnit×σ)) _ E s;exact ae ⟨rfl,h⟩
theorem bJ7(off:Nat):∀(M:List aJ) (k:Nat) (xs:Array aJ),off+k+M.length<=xs.size->((M.zipIdx k).foldl (λa pj=>a.setIfInBounds (off+pj.2) pj.1) xs).toList=xs.toList.take (off+k)++M++xs.toList.drop (off+k+M.length)
 |[],k,xs,h=>by simp
 |x::M,k,xs,h=>by
  rw[iU,List.foldl_cons,bJ7 off M (k+1) _ (by simp at h ⊢;lia)]
  simp only[ii];rw[cT] at h ⊢;have hl:off+k<xs.toList.length:=by simp;lia
  rw[show off+(k+1)=off+k+1 by lia,List.take_set,List.drop_set_of_lt (by lia),List.set_eq_take_append_cons_drop]
  have e1:(off+k)<(xs.toList.take (off+k+1)).length:=by rw[a6];lia
  rw[if_pos e1,List.take_take,Nat.min_eq_left (by lia),bH (by rw[a6];lia)]
  simp[aY,show off+k+1+M.length=off+k+(M.length+1) by lia]
section
variable{prog:aE}{w:aQ}{A:aW}{E:ad->ah->Prop}{s:ah}{κ:eD}{P:aJ->Prop}{lt:aJ->aJ->Bool}
theorem eZo(o:Orc prog w A s κ P lt){st:cM}{i sa na pw sb nb pw':Nat}{L1 Aa Bb L2:List aJ}{Q:Bool->cM->Prop}(hk:kindOf st=κ)(hf:fh st=none)(hp1:(bC st)[i]?=some (sa,na,pw))(hp2:(bC st)[i+1]?=some (sb,nb,pw'))
  (hsb:sb=sa+na) (hl:(aO st).toList=L1++(Aa++(Bb++L2))) (l1:L1.length=sa) (lA:Aa.length=na) (lB:Bb.length=nb) (na1:1<=na) (nb1:1<=nb) (PA:∀x∈Aa,P x) (PB:∀x∈Bb,P x) (sA:Sd lt Aa) (sB:Sd lt Bb)
  (h:∀C g xs,xs.toList=L1++(C++L2)->Sd lt C->C.Perm (Aa++Bb)->Q true (ie κ xs (((bC st).setIfInBounds i (sa,na+nb,pw)).eraseIdxIfInBounds (i+1)) g none)):wpS (aB prog w) A E s (mergeAt' i) Q st:=by
 have hsz:(aO st).size=sa+na+nb+L2.length:=by
  have:=congrArg iu hl
  simp only[aH,aG] at this;lia
 have atA:∀j x,Aa[j]?=some x->(aO st)[sa+j]?=some x:=λj x B=>by
  have hjl:=(aD.mp B).1;rw[<- aU,hl,bR (by lia),l1,Nat.add_sub_cancel_left,cU hjl];exact B
 have atB:∀j x,Bb[j]?=some x->(aO st)[sb+j]?=some x:=λj x B=>by
  have hjl:=(aD.mp B).1;rw[<- aU,hl,bR (by lia),l1,bR (by lia),lA,cU (by lia)]
  rw[show sb+j-sa-na=j by lia];exact B
 have Y:∀j,j<na->∃x,Aa[j]?=some x:=λj B=>⟨Aa[j],ag (by lia)⟩
 have O:∀j,j<nb->∃x,Bb[j]?=some x:=λj B=>⟨Bb[j],ag (by lia)⟩
 obtain⟨b0,hb0⟩:=O 0 nb1;have pb0:=PB b0 (ao hb0);rw[eZn];refine ax (gU ?_);rw[hp1,hp2];dsimp only;refine ax (dX1 ?_);have hk2:kindOf (fj st (((bC st).setIfInBounds i (sa,na+nb,pw)).eraseIdxIfInBounds (i+1)))=κ:=hk;have est:∀g xs,cJ (setG (fj st (((bC st).setIfInBounds i (sa,na+nb,pw)).eraseIdxIfInBounds (i+1))) g) xs=ie κ xs (((bC st).setIfInBounds i (sa,na+nb,pw)).eraseIdxIfInBounds (i+1)) g none:=λg xs=>by
  show ie (kindOf st) xs _ g (fh st)=_;rw[hk,hf]
 refine ax (aZb (x:=b0) (by have:=atB 0 b0 hb0;rwa [Nat.add_zero] at this) (ax (bQb o (f:=λj=>Aa.getD j (.none,.none)) hk2 pb0 (λj B=>?_) (λj j' hjj B hb=>?_) (by lia) λk k1 k2 k3=>?_)))
 ·obtain⟨x,J⟩:=Y j B;rw[am,J];exact⟨atA j x J,PA x (ao J)⟩
 ·obtain⟨z,hz⟩:=Y j (by lia)
  obtain⟨z',hz'⟩:=Y j' B;rw[am,hz'] at hb;rw[am,hz];have hb':lt b0 z'=false:=by simpa [bv] using hb
  show(!lt b0 z)=true;rcases Nat.eq_or_lt_of_le hjj with rfl|hlt
  ·rw[hz] at hz';cases hz';rw[hb'];rfl
  ·rw[o.tr z z' b0 (PA z (ao hz)) (PA z' (ao hz')) pb0 (sA.at hlt hz hz') hb'];rfl
 have lowA:∀u∈Aa.take k,∀v∈Bb,lt v u=false:=λu L v N=>by
  obtain⟨j,B,e⟩:=aQs L
  have:=k2 j B
  rw[am,e] at this;have h1:(!lt b0 u)=true:=this;exact bZp o PB sB (i:=0) (PA u (ao e)) hb0 (by simpa using h1) v N
 have upA:∀u∈Aa.drop k,lt u b0=false:=λu L=>by
  obtain⟨j,B,e⟩:=aQq L;have hjl:=(aD.mp e).1
  have:=k3 j B (by lia)
  rw[am,e] at this;have h1:(!lt b0 u)=false:=this;exact o.as _ _ pb0 (PA u (ao e)) (by simpa using h1)
 dsimp only;have whole:∀g,Sd lt (Aa++Bb)->Q true (setG (fj st (((bC st).setIfInBounds i (sa,na+nb,pw)).eraseIdxIfInBounds (i+1))) g):=λg hs=>by
  have:=h (Aa++Bb) g (aO st) (by rw[hl,aY]) hs (dE _)
  rw[<- est g (aO st)] at this;exact this
 by_cases c1:(na-k==0)=true
 ·rw[if_pos c1];have kn:k=na:=by
   have:na-k=0:=by simpa using c1
   lia
  refine aC (whole _ (be.mpr ⟨sA,sB,λu L v N=>lowA u ?_ v N⟩));rw[kn,<- lA,dY];exact L
 rw[if_neg c1];have c1':na-k≠0:=by simpa using c1
 obtain⟨al,hal⟩:=Y (na-1) (by lia)
 have pal:=PA al (ao hal);refine ax (aZb (x:=al) (by have:=atA _ al hal;rwa [show sa+k+(na-k)-1=sa+(na-1) by lia]) (ax (bQb o (f:=λj=>Bb.getD j (.none,.none)) hk2 pal (λj B=>?_) (λj j' hjj B hb=>?_) (by lia) λm m1 m2 m3=>?_)))
 ·obtain⟨x,J⟩:=O j B;rw[am,J];exact⟨atB j x J,PB x (ao J)⟩
 ·obtain⟨z,hz⟩:=O j (by lia)
  obtain⟨z',hz'⟩:=O j' B;rw[am,hz'] at hb;rw[am,hz];have hb':lt z' al=true:=hb;show lt z al=true;cases e:lt z al with
  |true=>rfl
  |false =>
   exfalso;have pz:=PB z (ao hz);have pz':=PB z' (ao hz');rcases Nat.eq_or_lt_of_le hjj with rfl|hlt
   ·rw[hz] at hz';cases hz';rw[e] at hb';cases hb'
   ·have:=o.tr al z z' pal pz pz' e (sB.at hlt hz hz')
    rw[hb'] at this;cases this
 have upB:∀v∈Bb.drop m,∀u∈Aa,lt v u=false:=λv N u L=>by
  obtain⟨j,B,e⟩:=aQq N;have hjl:=(aD.mp e).1
  have:=m3 j B (by lia)
  rw[am,e] at this;have h1:lt v al=false:=this
  have:=bZq o PA sA (PB v (ao e)) hal h1
  rw[show na-1+1=Aa.length by lia,dY] at this
  exact this u L
 have lowB:∀v∈Bb.take m,lt al v=false:=λv N=>by
  obtain⟨j,B,e⟩:=aQs N
  have:=m2 j B
  rw[am,e] at this;exact o.as _ _ (PB v (ao e)) pal this
 dsimp only
 by_cases c2:(m==0)=true
 ·rw[if_pos c2];have m0:m=0:=by simpa using c2
  refine aC (whole _ (be.mpr ⟨sA,sB,λu L v N=>upB v ?_ u L⟩));rw[m0];exact N
 rw[if_neg c2];have c2':m≠0:=by simpa using c2
 have ex:((aO st).extract (sa+k) sb).toList=Aa.drop k:=by
  rw[aZf,hl,<- l1,fx,bH (by lia),a9,Nat.add_sub_cancel_left,eJ (by lia),cu (by rw[bE];lia)]
  exact aZ (by rw[bE];lia)
 have ey:((aO st).extract sb (sb+m)).toList=Bb.take m:=by
  rw[aZf,hl,Nat.add_sub_cancel_left,fx,bH (by lia),a9,fx,bH (by lia),a9,show sb-L1.length-Aa.length=0 by lia,jm,cu (by lia)]
 have zx:((aO st).extract (sa+k) sb).size=na-k:=by rw[<- aH,ex,bE,lA]
 have zy:((aO st).extract sb (sb+m)).size=m:=by rw[<- aH,ey,a6];lia
 have fin:∀ (M:Array aJ) g,Sd lt M.toList->M.toList.Perm (((aO st).extract (sa + k) sb).toList++((aO st).extract sb (sb + m)).toList)->wpS (aB prog w) A E s (do
   modify λs=>cJ s (M.toList.zipIdx.foldl (λa Z=>a.setIfInBounds (sa+k+Z.2) Z.1) (aO s))
   let z <- get
   pure (fh z).isNone) Q (setG (fj st (((bC st).setIfInBounds i (sa,na+nb,pw)).eraseIdxIfInBounds (i+1))) g):=λM g hs D=>by
  refine ax (cN (ax (gU (aC ?_))));rw[ex,ey] at D;have ml:=D.length_eq;rw[aG,bE,a6] at ml;have ll:=bJ7 (sa+k) M.toList 0 (aO st) (by lia)
  have hfn:(fh (cJ (setG (fj st (((bC st).setIfInBounds i (sa,na+nb,pw)).eraseIdxIfInBounds (i+1))) g) (M.toList.zipIdx.foldl (λa Z=>a.setIfInBounds (sa+k+Z.2) Z.1) (aO st)))).isNone=true:=by
   show(fh st).isNone=true;rw[hf];rfl
  have main:=h (Aa.take k++(M.toList++Bb.drop m)) g (M.toList.zipIdx.foldl (λa Z=>a.setIfInBounds (sa+k+Z.2) Z.1) (aO st)) ?_ ?_ ?_
  ·rw[<- est g] at main;show Q _ _;have e0:(fh (cJ (setG (fj st (((bC st).setIfInBounds i (sa,na+nb,pw)).eraseIdxIfInBounds (i+1))) g) (M.toList.zipIdx.foldl (λa Z=>a.setIfInBounds (sa+k+Z.2) Z.1) (aO st)))).isNone=true:=hfn;exact(e0.symm▸main)
  ·rw[ll,hl];have t1:(L1++(Aa++(Bb++L2))).take (sa+k+0)=L1++Aa.take k:=by
    rw[<- l1,Nat.add_zero,List.take_append,aZ (by lia),Nat.add_sub_cancel_left,cu (by lia)]
   have t2:(L1++(Aa++(Bb++L2))).drop (sa+k+0+M.toList.length)=Bb.drop m++L2:=by
    rw[fx,bH (by lia),a9,fx,bH (by lia),a9,show sa+k+0+M.toList.length-L1.length-Aa.length=m by lia,eJ (by lia)]
   rw[t1,t2];simp only[aY]
  ·have sA':Sd lt (Aa.take k++Aa.drop k):=by rw[bo];exact sA
   have sB':Sd lt (Bb.take m++Bb.drop m):=by rw[bo];exact sB
   obtain⟨a1,_,a3⟩:=be.mp sA';obtain⟨_,b2,b3⟩:=be.mp sB';refine be.mpr ⟨a1,be.mpr ⟨hs,b2,λu L v N=>?_⟩,λu L v N=>?_⟩
   ·rcases aN.mp (D.mem_iff.mp L) with z|z
    ·exact upB v N u (eA z)
    ·exact b3 u z v N
   ·rcases aN.mp N with z|z
    ·rcases aN.mp (D.mem_iff.mp z) with y|y
     ·exact a3 u L v y
     ·exact lowA u L v (cr y)
    ·exact lowA u L v (eA z)
  ·have e1:(Aa++Bb)=Aa.take k++(Aa.drop k++(Bb.take m++Bb.drop m)):=by rw[<- aY,bo,bo]
   rw[e1];refine d4 _ ?_;rw[<- aY];exact dR _ D
 have pX:∀x∈((aO st).extract (sa+k) sb).toList,P x:=λx J=>PA x (eA (by rw[ex] at J;exact J))
 have pY:∀x∈((aO st).extract sb (sb+m)).toList,P x:=λx J=>PB x (cr (by rw[ey] at J;exact J))
 have hF:∀y,((aO st).extract sb (sb+m)).toList[0]?=some y->∀x∈((aO st).extract (sa+k) sb).toList,lt x y=false:=λy hy x J=>by
  rw[ey,iC (by lia),hb0] at hy
  cases hy;rw[ex] at J;exact upA x J
 have hL:∀z,((aO st).extract (sa+k) sb).toList[((aO st).extract (sa+k) sb).size-1]?=some z->∀y∈((aO st).extract sb (sb+m)).toList,lt z y=false:=λz hz y hy=>by
  rw[ex,zx,List.getElem?_drop,show k+(na-k-1)=na-1 by lia,hal] at hz
  cases hz;rw[ey] at hy;exact lowB y hy
 have sX:Sd lt ((aO st).extract (sa+k) sb).toList:=by rw[ex];exact sA.drop k
 have sY:Sd lt ((aO st).extract sb (sb+m)).toList:=by rw[ey];exact sB.take m
 by_cases c3:na-k<=m
 ·rw[if_pos c3];exact ax (eZk o hk2 pX pY sX sY (by lia) (by lia) hF hL λM g hs D=>fin M g hs D)
 ·rw[if_neg c3];exact ax (eZm o hk2 pX pY sX sY (by lia) (by lia) hF hL λM g hs D=>fin M g hs D)
end
def at0(xs:Array aJ)(i:Nat):aJ:=(xs[i]?).getD (.none,.none)
theorem cZc{xs ys:Array aJ}{i j:Nat}(h:xs[i]?=ys[j]?):at0 xs i=at0 ys j:=by unfold at0;rw[h]
def Gd(lo:Nat)(a xs:Array aJ):Prop:=xs.Perm a/\∀i,i<lo->xs[i]?=a[i]?
theorem Gd.size{lo:Nat}{a xs:Array aJ}(h:Gd lo a xs):xs.size=a.size:=h.1.size_eq
def Up(lt:aJ->aJ->Bool)(xs:Array aJ)(i j:Nat):Prop:=∀p q,i<=p->p<q->q<j->lt (at0 xs q) (at0 xs p)=false
def Dn(lt:aJ->aJ->Bool)(xs:Array aJ)(i j:Nat):Prop:=∀p q,i<=p->p<q->q<j->lt (at0 xs p) (at0 xs q)=false
def Eqs(lt:aJ->aJ->Bool)(xs:Array aJ)(i j:Nat):Prop:=∀p q,i<=p->p<j->i<=q->q<j->lt (at0 xs p) (at0 xs q)=false
theorem aJr{xs:Array aJ}{i j:Nat}(hj:j<=xs.size)(k:Nat):at0 (dq xs i j ((j-i)/2)) k=if i<=k/\k<j then at0 xs (i+j-1-k) else at0 xs k:=by
 have e:=getElem?_mirror_all (i:=i) hj k
 split at e
 ·next h=>rw[if_pos h];exact cZc e
 ·next h=>rw[if_neg h];exact cZc e
theorem Gd.rev{lo i j d:Nat}{a xs:Array aJ}(h:Gd lo a xs)(hi:lo<=i)(hj:j<=xs.size)(hd:d=(j-i)/2):Gd lo a (dq xs i j d):=by
 subst hd;refine⟨(mirror_perm _ _ _ _).trans h.1,λk B=>?_⟩;rw[getElem?_mirror_all hj,if_neg (by lia)]
 exact h.2 k B
section
variable{prog:aE}{w:aQ}{A:aW}{E:ad->ah->Prop}{s:ah}{κ:eD}{P:aJ->Prop}{lt:aJ->aJ->Bool}
theorem gd_P{lo:Nat}{a xs:Array aJ}(h:Gd lo a xs)(PA:∀x∈a.toList,P x){i:Nat}(hi:i<a.size):xs[i]?=some (at0 xs i)/\P (at0 xs i):=by
 have j:i<xs.size:=by rw[h.size];exact hi
 have e:xs[i]?=some xs[i]:=getElem?_pos _ i j;have e2:at0 xs i=xs[i]:=by unfold at0;rw[e];rfl
 rw[e2];exact⟨e,PA _ ((cO.mp h.1).mem_iff.mp (by simp))⟩
theorem aZc(o:Orc prog w A s κ P lt){st:cM}{xs:Array aJ}{lo i j:Nat}{Q:Option Bool->cM->Prop}(hk:kindOf st=κ)(PA:∀x∈(aO st).toList,P x)(g:Gd lo (aO st) xs)(hi:i<(aO st).size)(hj:j<(aO st).size)(h:Q (some (lt (at0 xs i) (at0 xs j))) (cJ st xs)) :
  wpS (aB prog w) A E s (ltAt' i j) Q (cJ st xs):=by
 rw[ltAt'_eq];refine ax (gU ?_);obtain⟨e1,B⟩:=gd_P g PA hi;obtain⟨e2,p2⟩:=gd_P g PA hj;exact ax (aZb e1 (ax (aZb e2 (cZa o hk B p2 h))))
theorem irr(o:Orc prog w A s κ P lt){x:aJ}(hx:P x):lt x x=false:=by
 cases e:lt x x with
 |false=>rfl
 |true=>exact absurd (e.symm.trans (o.as x x hx hx e)) (by decide)
variable{st:cM}{xs:Array aJ}{lo:Nat}
theorem Up.more(o:Orc prog w A s κ P lt){i j:Nat}(hP:∀p,p<=j->P (at0 xs p))(h:Up lt xs i j)(hij:i<j)(e:lt (at0 xs j) (at0 xs (j-1))=false):Up lt xs i (j+1):=λp q h1 h2 B=>by
 rcases Nat.lt_or_ge q j with z|z
 ·exact h p q h1 h2 z
 ·have:q=j:=by lia
  subst this;rcases Nat.lt_or_ge p (q-1) with y|y
  ·exact o.tr _ _ _ (hP p (by lia)) (hP (q-1) (by lia)) (hP q (by lia)) (h p (q-1) h1 y (by lia)) e
  ·have:p=q-1:=by lia
   rw[this];exact e
theorem Dn.more(o:Orc prog w A s κ P lt){i j:Nat}(hP:∀p,p<=j->P (at0 xs p))(h:Dn lt xs i j)(hij:i<j)(e:lt (at0 xs (j-1)) (at0 xs j)=false):Dn lt xs i (j+1):=λp q h1 h2 B=>by
 rcases Nat.lt_or_ge q j with z|z
 ·exact h p q h1 h2 z
 ·have:q=j:=by lia
  subst this;rcases Nat.lt_or_ge p (q-1) with y|y
  ·exact o.tr _ _ _ (hP q (by lia)) (hP (q-1) (by lia)) (hP p (by lia)) e (h p (q-1) h1 y (by lia))
  ·have:p=q-1:=by lia
   rw[this];exact e
theorem Dn.rev{i j d:Nat}(h:Dn lt xs i j)(hj:j<=xs.size)(hd:d=(j-i)/2):Up lt (dq xs i j d) i j:=λp q h1 h2 B=>by
 subst hd;rw[aJr hj,aJr hj,if_pos ⟨by lia,by lia⟩,if_pos ⟨by lia,by lia⟩]
 exact h _ _ (by lia) (by lia) (by lia)
theorem Dn.eqs{i j c d:Nat}(h:Dn lt xs i j)(hc:i<=c)(he:Eqs lt xs c j)(hj:j<=xs.size)(hd:d=(j-c)/2):Dn lt (dq xs c j d) i j:=λp q h1 h2 B=>by
 subst hd;rw[aJr hj,aJr hj]
 by_cases a1:c<=p/\p<j
 ·rw[if_pos a1,if_pos ⟨by lia,by lia⟩]
  exact he _ _ (by lia) (by lia) (by lia) (by lia)
 ·rw[if_neg a1]
  by_cases a2:c<=q/\q<j
  ·rw[if_pos a2];exact h _ _ h1 (by lia) (by lia)
  ·rw[if_neg a2];exact h _ _ h1 h2 B
theorem eZp(o:Orc prog w A s κ P lt){nrem:Nat}{Q:Option Nat->cM->Prop}(hk:kindOf st=κ)(PA:∀x∈(aO st).toList,P x)(hn:1<=nrem)(hs:lo+nrem<=(aO st).size)
  (h:∀n xs,1<=n->n<=nrem->Gd lo (aO st) xs->Up lt xs lo (lo+n)->Q (some n) (cJ st xs)):wpS (aB prog w) A E s (countRun' lo nrem) Q st:=by
 have J:∀ {xs},Gd lo (aO st) xs->∀ p,p < (aO st).size->P (at0 xs p):=λg p L=>(gd_P g PA L).2;rw[countRun'_eq];dsimp only;have est:st=cJ st (aO st):=rfl;have g0:Gd lo (aO st) (aO st):=⟨jf _,λ_ _=>rfl⟩;refine ax (c7 (bF (I:=λx c B=>B=cJ st (aO st)/\c=(none,x)/\1<=x/\Up lt (aO st) lo (lo + x))
  (Q:=λc B=>B=cJ st (aO st)/\∃n,c=(none,n)/\1<=n/\n<=nrem/\Up lt (aO st) lo (lo+n)/\(n<nrem->lt (at0 (aO st) (lo+n)) (at0 (aO st) (lo+n-1))=true)) ?_ ?_ ⟨est,rfl,Nat.le_refl _,λp q _ _ _=>by lia⟩) ?_)
 ·rintro x c B _ hx ⟨rfl,rfl,h1,D⟩;dsimp only;refine ax (aZc o (i:=lo+x) (j:=lo+x-1) hk PA g0 (by lia) (by lia) ?_)
  dsimp only;cases e:lt (at0 (aO st) (lo+x)) (at0 (aO st) (lo+x-1)) with
  |true=>rw[if_pos rfl];exact aC ⟨rfl,x,rfl,h1,by lia,D,λ_=>e⟩
  |false=>rw[if_neg (by simp)];exact aC ⟨rfl,rfl,by lia,Up.more o (i:=lo) (j:=lo+x) (λp L=>J g0 p (by lia)) D (by lia) e⟩
 ·rintro c B ⟨rfl,rfl,h1,D⟩;refine⟨rfl,_,rfl,by lia,by lia,D,λz=>by lia⟩
 ·rintro c B ⟨rfl,n,rfl,O,N,D,hlt⟩;dsimp only
  by_cases c0:(n==nrem)=true
  ·rw[if_pos c0];exact aC (h n _ O N g0 D)
  rw[if_neg c0];have c0':n<nrem:=by
   have:n≠nrem:=by simpa using c0
   lia
  have hlt':=hlt c0';have pp:∀p,p<=lo+n->P (at0 (aO st) p):=λp L=>J g0 p (by lia)
  have hle:=o.as _ _ (pp _ (Nat.le_refl _)) (pp _ (by lia)) hlt'
  by_cases cn:n>1
  ·rw[if_pos cn];refine ax (aZc o (i:=lo) (j:=lo+n-1) hk PA g0 (by lia) (by lia) ?_)
   dsimp only;cases e:lt (at0 (aO st) lo) (at0 (aO st) (lo+n-1)) with
   |true=>rw[if_pos rfl];exact aC (h n _ O N g0 D)
   |false =>
    rw[if_neg (by simp),c8]
    have down:∀p,lo<=p->p<lo+n->lt (at0 (aO st) p) (at0 (aO st) (lo+n-1))=false:=λp h1 h2=>by
     rcases Nat.eq_or_lt_of_le h1 with rfl|h1
     ·exact e
     ·exact o.tr _ _ _ (pp _ (by lia)) (pp _ (by lia)) (pp _ (by lia)) e (D lo p (Nat.le_refl _) h1 h2)
    have dn:Dn lt (aO st) lo (lo+n):=λp q h1 h2 h3=>by
     rcases Nat.eq_or_lt_of_le (show q<=lo+n-1 by lia) with z|z
     ·rw[z];exact down p h1 (by lia)
     ·exact o.tr _ _ _ (pp _ (by lia)) (pp _ (by lia)) (pp _ (by lia)) (D q (lo+n-1) (by lia) z (by lia)) (down p h1 (by lia))
    have eqs:Eqs lt (aO st) lo (lo+n):=λp q h1 h2 h3 h4=>by
     rcases Nat.lt_trichotomy p q with z|z|z
     ·exact dn p q h1 z h4
     ·subst z;exact irr o (pp _ (by lia))
     ·exact D q p h3 z h2
    have g2:Gd lo (aO st) (dq (aO st) lo (lo+n) ((lo+n-lo)/2)):=g0.rev (Nat.le_refl _) (by lia) rfl
    have hd:Dn lt (dq (aO st) lo (lo+n) ((lo+n-lo)/2)) lo (lo+(n+1)):=by
     refine Dn.more o (i:=lo) (j:=lo+n) (λp L=>J g2 p (by lia)) (dn.eqs (Nat.le_refl _) eqs (by lia) rfl) (by lia) ?_
     have rv:=aJr (xs:=aO st) (i:=lo) (j:=lo+n) (by lia)
     rw[rv,rv,if_pos ⟨by lia,by lia⟩,if_neg (by lia)]
     exact o.tr _ _ _ (pp _ (by lia)) (pp (lo+n-1) (by lia)) (pp _ (by lia)) hle (down _ (by lia) (by lia))
    have N:=c0';refine ax (cN ?_);change wpS _ _ _ _ _ _ (cJ st (dq (aO st) lo (lo+n) ((lo+n-lo)/2)))
    rename Gd lo (aO st) (dq (aO st) lo (lo+n) ((lo+n-lo)/2))=>g
    generalize dq (aO st) lo (lo + n) ((lo + n - lo) / 2)=xs at g hd ⊢;refine ax (ig (cx ⟨rfl,?_⟩));refine ax (c7 (bF (I:=λx c B=>∃ xs q,B=cJ st xs/\c=(none,x,q)/\2<=x/\q + 1<=x/\Gd lo (aO st) xs/\Dn lt xs lo (lo + x)/\Eqs lt xs (lo + x - (q + 1)) (lo + x))
     (Q:=λc B=>∃ xs n q,B=cJ st xs/\c=(none,n,q)/\1<=n/\n<=nrem/\q + 1<=n/\Gd lo (aO st) xs/\Dn lt xs lo (lo + n)/\Eqs lt xs (lo + n - (q + 1)) (lo + n)) ?_ ?_ ⟨xs,0,rfl,rfl,by lia,by lia,g,hd,λp q h1 h2 h3 h4=>by
      have:p=q:=by lia
      subst this;exact irr o (J g p (by lia))⟩) ?_)
    ·rintro x c B _ hx ⟨xs,q,rfl,rfl,x2,hq,g,hd,he⟩;have hxs:xs.size=(aO st).size:=g.size;dsimp only;refine ax (aZc o (i:=lo+x) (j:=lo+x-1) hk PA g (by lia) (by lia) ?_)
     dsimp only;cases e:lt (at0 xs (lo+x)) (at0 xs (lo+x-1)) with
     |true =>
      rw[if_pos rfl];have e2:=o.as _ _ (J g _ (by lia)) (J g _ (by lia)) e
      have one:∀ys,Gd lo (aO st) ys->Eqs lt ys (lo+(x+1)-(0+1)) (lo+(x+1)):=λys g' p q h1 h2 h3 h4=>by
       have:p=q:=by lia
       subst this;exact irr o (J g' p (by lia))
      by_cases Z:q>0
      ·rw[if_pos Z,c8];have hd2:(lo+x-(lo+x-(q+1)))/2=(lo+x-(lo+x-(q+1)))/2:=rfl;have g2:Gd lo (aO st) (dq xs (lo+x-(q+1)) (lo+x) ((lo+x-(lo+x-(q+1)))/2)):=g.rev (by lia) (by lia) rfl
       have d2:Dn lt (dq xs (lo+x-(q+1)) (lo+x) ((lo+x-(lo+x-(q+1)))/2)) lo (lo+x):=hd.eqs (by lia) he (by lia) rfl
       refine ax (cN (aC ⟨_,0,rfl,rfl,by lia,by lia,g2,Dn.more o (i:=lo) (j:=lo+x) (λp L=>J g2 p (by lia)) d2 (by lia) ?_,one _ g2⟩))
       have rv:=aJr (xs:=xs) (i:=lo+x-(q+1)) (j:=lo+x) (by lia)
       rw[rv,rv,if_pos ⟨by lia,by lia⟩,if_neg (by lia)]
       exact o.tr (at0 xs (lo+x)) (at0 xs (lo+x-1)) _ (J g _ (by lia)) (J g _ (by lia)) (J g _ (by lia)) e2 (he _ _ (by lia) (by lia) (by lia) (by lia))
      ·rw[if_neg Z];exact aC ⟨xs,0,rfl,rfl,by lia,by lia,g,Dn.more o (i:=lo) (j:=lo+x) (λp L=>J g p (by lia)) hd (by lia) e2,one _ g⟩
     |false =>
      rw[if_neg (by simp)]
      refine ax (aZc o (i:=lo+x-1) (j:=lo+x) hk PA g (by lia) (by lia) ?_)
      dsimp only;cases e2:lt (at0 xs (lo+x-1)) (at0 xs (lo+x)) with
      |true=>rw[if_pos rfl];exact aC ⟨xs,x,q,rfl,rfl,by lia,by lia,hq,g,hd,he⟩
      |false =>
       rw[if_neg (by simp)]
       refine aC ⟨xs,q+1,rfl,rfl,by lia,by lia,g,Dn.more o (i:=lo) (j:=lo+x) (λp L=>J g p (by lia)) hd (by lia) e2,λp r h1 h2 h3 h4=>?_⟩
       have pp:∀p,p<=lo+x->P (at0 xs p):=λp L=>J g p (by lia)
       have low:∀p,lo+x-(q+1)<=p->p<lo+x->lt (at0 xs p) (at0 xs (lo+x))=false/\lt (at0 xs (lo+x)) (at0 xs p)=false:=λp a1 a2=>by
        have b1:=he p (lo+x-1) a1 a2 (by lia) (by lia)
        have b2:=he (lo+x-1) p (by lia) (by lia) a1 a2
        exact⟨o.tr _ _ _ (pp _ (by lia)) (pp _ (by lia)) (pp _ (by lia)) e2 b1,o.tr _ _ _ (pp _ (by lia)) (pp _ (by lia)) (pp _ (by lia)) b2 e⟩
       by_cases z1:p=lo+x
       ·by_cases z2:r=lo+x
        ·rw[z1,z2];exact irr o (pp _ (by lia))
        ·rw[z1];exact(low r (by lia) (by lia)).2
       ·by_cases z2:r=lo+x
        ·rw[z2];exact(low p (by lia) (by lia)).1
        ·exact he p r (by lia) (by lia) (by lia) (by lia)
    ·rintro c B ⟨xs,q,rfl,rfl,x2,hq,g,hd,he⟩;exact⟨xs,_,q,rfl,rfl,by lia,by lia,hq,g,by rwa [show max (n+1) nrem=nrem by lia] at hd ⊢,he⟩
    ·rintro c B ⟨xs,n,q,rfl,rfl,O,N,hq,g,hd,he⟩;have hxs:xs.size=(aO st).size:=g.size;dsimp only
     by_cases Z:q>0
     ·rw[if_pos Z,c8,c8];have g2:Gd lo (aO st) (dq xs (lo+n-(q+1)) (lo+n) ((lo+n-(lo+n-(q+1)))/2)):=g.rev (by lia) (by lia) rfl
      have d2:Dn lt (dq xs (lo+n-(q+1)) (lo+n) ((lo+n-(lo+n-(q+1)))/2)) lo (lo+n):=hd.eqs (by lia) he (by lia) rfl
      have s2:=g2.size;have g3:=g2.rev (i:=lo) (j:=lo+n) (Nat.le_refl _) (by lia) rfl
      have Y:=d2.rev (i:=lo) (j:=lo+n) (by lia) rfl
      refine ax (cN (ax (cN ?_)));change wpS _ _ _ _ _ _ (cJ st (dq (dq xs (lo + n - (q + 1)) (lo + n) ((lo + n - (lo + n - (q + 1))) / 2)) lo (lo + n) ((lo + n - lo) / 2)));generalize dq (dq xs (lo + n - (q + 1)) (lo + n) ((lo + n - (lo + n - (q + 1))) / 2)) lo (lo + n) ((lo + n - lo) / 2)=zs at g3 Y ⊢;refine ax (c7 (bF (I:=λx c B=>B=cJ st zs/\c=(none,x)/\n<=x/\Up lt (zs) lo (lo + x))
       (Q:=λc B=>B=cJ st zs/\∃n,c=(none,n)/\1<=n/\n<=nrem/\Up lt (zs) lo (lo+n)) ?_ ?_ ⟨rfl,rfl,Nat.le_refl _,Y⟩) ?_)
      ·rintro x c B _ hx ⟨rfl,rfl,h1,D⟩;dsimp only;refine ax (aZc o (i:=lo+x) (j:=lo+x-1) hk PA g3 (by lia) (by lia) ?_)
       dsimp only;cases e:lt (at0 (zs) (lo+x)) (at0 (zs) (lo+x-1)) with
       |true=>rw[if_pos rfl];exact aC ⟨rfl,x,rfl,by lia,by lia,D⟩
       |false=>rw[if_neg (by simp)];exact aC ⟨rfl,rfl,by lia,Up.more o (i:=lo) (j:=lo+x) (λp L=>J g3 p (by lia)) D (by lia) e⟩
      ·rintro c B ⟨rfl,rfl,h1,D⟩;exact⟨rfl,_,rfl,by lia,by lia,D⟩
      ·rintro c B ⟨rfl,n,rfl,O,N,D⟩;exact aC (h n (zs) O N g3 D)
     ·rw[if_neg Z,c8];have g3:=g.rev (i:=lo) (j:=lo+n) (Nat.le_refl _) (by lia) rfl
      have Y:=hd.rev (i:=lo) (j:=lo+n) (by lia) rfl
      refine ax (cN ?_);change wpS _ _ _ _ _ _ (cJ st (dq xs lo (lo + n) ((lo + n - lo) / 2)));generalize dq xs lo (lo + n) ((lo + n - lo) / 2)=zs at g3 Y ⊢;refine ax (c7 (bF (I:=λx c B=>B=cJ st zs/\c=(none,x)/\n<=x/\Up lt (zs) lo (lo + x))
       (Q:=λc B=>B=cJ st zs/\∃n,c=(none,n)/\1<=n/\n<=nrem/\Up lt (zs) lo (lo+n)) ?_ ?_ ⟨rfl,rfl,Nat.le_refl _,Y⟩) ?_)
      ·rintro x c B _ hx ⟨rfl,rfl,h1,D⟩;dsimp only;refine ax (aZc o (i:=lo+x) (j:=lo+x-1) hk PA g3 (by lia) (by lia) ?_)
       dsimp only;cases e:lt (at0 (zs) (lo+x)) (at0 (zs) (lo+x-1)) with
       |true=>rw[if_pos rfl];exact aC ⟨rfl,x,rfl,by lia,by lia,D⟩
       |false=>rw[if_neg (by simp)];exact aC ⟨rfl,rfl,by lia,Up.more o (i:=lo) (j:=lo+x) (λp L=>J g3 p (by lia)) D (by lia) e⟩
      ·rintro c B ⟨rfl,rfl,h1,D⟩;exact⟨rfl,_,rfl,by lia,by lia,D⟩
      ·rintro c B ⟨rfl,n,rfl,O,N,D⟩;exact aC (h n (zs) O N g3 D)
  ·rw[if_neg cn];have e1:n=1:=by lia
   subst e1;have hd:Dn lt (aO st) lo (lo+(1+1)):=λp q h1 h2 h3=>by
    have ep:p=lo:=by lia
    have eq:q=lo+1:=by lia
    rw[ep,eq];exact hle
   have N:=c0';have g:=g0;refine ax (ig (cx ⟨rfl,?_⟩));refine ax (c7 (bF (I:=λx c B=>∃ xs q,B=cJ st xs/\c=(none,x,q)/\2<=x/\q + 1<=x/\Gd lo (aO st) xs/\Dn lt xs lo (lo + x)/\Eqs lt xs (lo + x - (q + 1)) (lo + x))
    (Q:=λc B=>∃ xs n q,B=cJ st xs/\c=(none,n,q)/\1<=n/\n<=nrem/\q + 1<=n/\Gd lo (aO st) xs/\Dn lt xs lo (lo + n)/\Eqs lt xs (lo + n - (q + 1)) (lo + n)) ?_ ?_ ⟨aO st,0,rfl,rfl,by lia,by lia,g,hd,λp q h1 h2 h3 h4=>by
     have:p=q:=by lia
     subst this;exact irr o (J g p (by lia))⟩) ?_)
   ·rintro x c B _ hx ⟨xs,q,rfl,rfl,x2,hq,g,hd,he⟩;have hxs:xs.size=(aO st).size:=g.size;dsimp only;refine ax (aZc o (i:=lo+x) (j:=lo+x-1) hk PA g (by lia) (by lia) ?_)
    dsimp only;cases e:lt (at0 xs (lo+x)) (at0 xs (lo+x-1)) with
    |true =>
     rw[if_pos rfl];have e2:=o.as _ _ (J g _ (by lia)) (J g _ (by lia)) e
     have one:∀ys,Gd lo (aO st) ys->Eqs lt ys (lo+(x+1)-(0+1)) (lo+(x+1)):=λys g' p q h1 h2 h3 h4=>by
      have:p=q:=by lia
      subst this;exact irr o (J g' p (by lia))
     by_cases Z:q>0
     ·rw[if_pos Z,c8];have hd2:(lo+x-(lo+x-(q+1)))/2=(lo+x-(lo+x-(q+1)))/2:=rfl;have g2:Gd lo (aO st) (dq xs (lo+x-(q+1)) (lo+x) ((lo+x-(lo+x-(q+1)))/2)):=g.rev (by lia) (by lia) rfl
      have d2:Dn lt (dq xs (lo+x-(q+1)) (lo+x) ((lo+x-(lo+x-(q+1)))/2)) lo (lo+x):=hd.eqs (by lia) he (by lia) rfl
      refine ax (cN (aC ⟨_,0,rfl,rfl,by lia,by lia,g2,Dn.more o (i:=lo) (j:=lo+x) (λp L=>J g2 p (by lia)) d2 (by lia) ?_,one _ g2⟩))
      have rv:=aJr (xs:=xs) (i:=lo+x-(q+1)) (j:=lo+x) (by lia)
      rw[rv,rv,if_pos ⟨by lia,by lia⟩,if_neg (by lia)]
      exact o.tr (at0 xs (lo+x)) (at0 xs (lo+x-1)) _ (J g _ (by lia)) (J g _ (by lia)) (J g _ (by lia)) e2 (he _ _ (by lia) (by lia) (by lia) (by lia))
     ·rw[if_neg Z];exact aC ⟨xs,0,rfl,rfl,by lia,by lia,g,Dn.more o (i:=lo) (j:=lo+x) (λp L=>J g p (by lia)) hd (by lia) e2,one _ g⟩
    |false =>
     rw[if_neg (by simp)]
     refine ax (aZc o (i:=lo+x-1) (j:=lo+x) hk PA g (by lia) (by lia) ?_)
     dsimp only;cases e2:lt (at0 xs (lo+x-1)) (at0 xs (lo+x)) with
     |true=>rw[if_pos rfl];exact aC ⟨xs,x,q,rfl,rfl,by lia,by lia,hq,g,hd,he⟩
     |false =>
      rw[if_neg (by simp)]
      refine aC ⟨xs,q+1,rfl,rfl,by lia,by lia,g,Dn.more o (i:=lo) (j:=lo+x) (λp L=>J g p (by lia)) hd (by lia) e2,λp r h1 h2 h3 h4=>?_⟩
      have pp:∀p,p<=lo+x->P (at0 xs p):=λp L=>J g p (by lia)
      have low:∀p,lo+x-(q+1)<=p->p<lo+x->lt (at0 xs p) (at0 xs (lo+x))=false/\lt (at0 xs (lo+x)) (at0 xs p)=false:=λp a1 a2=>by
       have b1:=he p (lo+x-1) a1 a2 (by lia) (by lia)
       have b2:=he (lo+x-1) p (by lia) (by lia) a1 a2
       exact⟨o.tr _ _ _ (pp _ (by lia)) (pp _ (by lia)) (pp _ (by lia)) e2 b1,o.tr _ _ _ (pp _ (by lia)) (pp _ (by lia)) (pp _ (by lia)) b2 e⟩
      by_cases z1:p=lo+x
      ·by_cases z2:r=lo+x
       ·rw[z1,z2];exact irr o (pp _ (by lia))
       ·rw[z1];exact(low r (by lia) (by lia)).2
      ·by_cases z2:r=lo+x
       ·rw[z2];exact(low p (by lia) (by lia)).1
       ·exact he p r (by lia) (by lia) (by lia) (by lia)
   ·rintro c B ⟨xs,q,rfl,rfl,x2,hq,g,hd,he⟩;exact⟨xs,_,q,rfl,rfl,by lia,by lia,hq,g,by rwa [show max (1+1) nrem=nrem by lia] at hd ⊢,he⟩
   ·rintro c B ⟨xs,n,q,rfl,rfl,O,N,hq,g,hd,he⟩;have hxs:xs.size=(aO st).size:=g.size;dsimp only
    by_cases Z:q>0
    ·rw[if_pos Z,c8,c8];have g2:Gd lo (aO st) (dq xs (lo+n-(q+1)) (lo+n) ((lo+n-(lo+n-(q+1)))/2)):=g.rev (by lia) (by lia) rfl
     have d2:Dn lt (dq xs (lo+n-(q+1)) (lo+n) ((lo+n-(lo+n-(q+1)))/2)) lo (lo+n):=hd.eqs (by lia) he (by lia) rfl
     have s2:=g2.size;have g3:=g2.rev (i:=lo) (j:=lo+n) (Nat.le_refl _) (by lia) rfl
     have Y:=d2.rev (i:=lo) (j:=lo+n) (by lia) rfl
     refine ax (cN (ax (cN ?_)));change wpS _ _ _ _ _ _ (cJ st (dq (dq xs (lo + n - (q + 1)) (lo + n) ((lo + n - (lo + n - (q + 1))) / 2)) lo (lo + n) ((lo + n - lo) / 2)));generalize dq (dq xs (lo + n - (q + 1)) (lo + n) ((lo + n - (lo + n - (q + 1))) / 2)) lo (lo + n) ((lo + n - lo) / 2)=zs at g3 Y ⊢;refine ax (c7 (bF (I:=λx c B=>B=cJ st zs/\c=(none,x)/\n<=x/\Up lt (zs) lo (lo + x))
      (Q:=λc B=>B=cJ st zs/\∃n,c=(none,n)/\1<=n/\n<=nrem/\Up lt (zs) lo (lo+n)) ?_ ?_ ⟨rfl,rfl,Nat.le_refl _,Y⟩) ?_)
     ·rintro x c B _ hx ⟨rfl,rfl,h1,D⟩;dsimp only;refine ax (aZc o (i:=lo+x) (j:=lo+x-1) hk PA g3 (by lia) (by lia) ?_)
      dsimp only;cases e:lt (at0 (zs) (lo+x)) (at0 (zs) (lo+x-1)) with
      |true=>rw[if_pos rfl];exact aC ⟨rfl,x,rfl,by lia,by lia,D⟩
      |false=>rw[if_neg (by simp)];exact aC ⟨rfl,rfl,by lia,Up.more o (i:=lo) (j:=lo+x) (λp L=>J g3 p (by lia)) D (by lia) e⟩
     ·rintro c B ⟨rfl,rfl,h1,D⟩;exact⟨rfl,_,rfl,by lia,by lia,D⟩
     ·rintro c B ⟨rfl,n,rfl,O,N,D⟩;exact aC (h n (zs) O N g3 D)
    ·rw[if_neg Z,c8];have g3:=g.rev (i:=lo) (j:=lo+n) (Nat.le_refl _) (by lia) rfl
     have Y:=hd.rev (i:=lo) (j:=lo+n) (by lia) rfl
     refine ax (cN ?_);change wpS _ _ _ _ _ _ (cJ st (dq xs lo (lo + n) ((lo + n - lo) / 2)));generalize dq xs lo (lo + n) ((lo + n - lo) / 2)=zs at g3 Y ⊢;refine ax (c7 (bF (I:=λx c B=>B=cJ st zs/\c=(none,x)/\n<=x/\Up lt (zs) lo (lo + x))
      (Q:=λc B=>B=cJ st zs/\∃n,c=(none,n)/\1<=n/\n<=nrem/\Up lt (zs) lo (lo+n)) ?_ ?_ ⟨rfl,rfl,Nat.le_refl _,Y⟩) ?_)
     ·rintro x c B _ hx ⟨rfl,rfl,h1,D⟩;dsimp only;refine ax (aZc o (i:=lo+x) (j:=lo+x-1) hk PA g3 (by lia) (by lia) ?_)
      dsimp only;cases e:lt (at0 (zs) (lo+x)) (at0 (zs) (lo+x-1)) with
      |true=>rw[if_pos rfl];exact aC ⟨rfl,x,rfl,by lia,by lia,D⟩
      |false=>rw[if_neg (by simp)];exact aC ⟨rfl,rfl,by lia,Up.more o (i:=lo) (j:=lo+x) (λp L=>J g3 p (by lia)) D (by lia) e⟩
     ·rintro c B ⟨rfl,rfl,h1,D⟩;exact⟨rfl,_,rfl,by lia,by lia,D⟩
     ·rintro c B ⟨rfl,n,rfl,O,N,D⟩;exact aC (h n (zs) O N g3 D)
end
theorem bub_at{xs:Array aJ}{src d:Nat}(hs:src<xs.size)(hd:d<=src)(k:Nat) :
  at0 (bubble xs src d) k=if k=src-d then at0 xs src else if src-d<k/\k<=src then at0 xs (k-1) else at0 xs k:=by
 have e:=getElem?_bubble hs d hd k
 by_cases h1:k=src-d
 ·rw[if_pos h1] at e ⊢;exact cZc e
 ·rw[if_neg h1] at e ⊢
  by_cases h2:src-d<k/\k<=src
  ·rw[if_pos h2] at e ⊢;exact cZc e
  ·rw[if_neg h2] at e ⊢;exact cZc e
section
variable{prog:aE}{w:aQ}{A:aW}{E:ad->ah->Prop}{s:ah}{κ:eD}{P:aJ->Prop}{lt:aJ->aJ->Bool}{st:cM}{lo:Nat}
theorem eZq(o:Orc prog w A s κ P lt){n ok:Nat}{Q:Bool->cM->Prop}(hk:kindOf st=κ)(PA:∀x∈(aO st).toList,P x)(hs:lo+n<=(aO st).size)(hok:ok<=n)(hu:Up lt (aO st) lo (lo+ok))
  (h:∀xs,Gd lo (aO st) xs->Up lt xs lo (lo+n)->Q true (cJ st xs)):wpS (aB prog w) A E s (binarySort' lo n ok) Q st:=by
 have pP:∀ {xs},Gd lo (aO st) xs->∀ p,p < (aO st).size->P (at0 xs p):=λg p hp=>(gd_P g PA hp).2;have g0:Gd lo (aO st) (aO st):=⟨jf _,λ_ _=>rfl⟩;rw[binarySort'_eq];refine ax (c7 (bF (I:=λk c D=>∃ xs,D=cJ st xs/\c=(none,())/\Gd lo (aO st) xs/\Up lt xs lo (lo + min k n))
  (Q:=λc D=>∃xs,D=cJ st xs/\c=(none,())/\Gd lo (aO st) xs/\Up lt xs lo (lo+n)) ?step ?fin ?init) ?post)
 case post =>
  rintro c D ⟨xs,rfl,rfl,g,hu⟩;exact aC (h xs g hu)
 case init =>
  refine⟨aO st,rfl,rfl,g0,λp q h1 h2 h3=>?_⟩
  by_cases z:ok=0
  ·lia
  ·exact hu p q h1 h2 (by lia)
 case fin =>
  rintro c D ⟨xs,rfl,rfl,g,hu⟩;refine⟨xs,rfl,rfl,g,?_⟩;rwa [show min (max (max ok 1) n) n=n by lia] at hu
 case step =>
  rintro k c D hak hkn ⟨xs,rfl,rfl,g,hu⟩;rw[show min k n=k by lia] at hu
  have hxs:xs.size=(aO st).size:=g.size;have pp:∀p,p<lo+n->P (at0 xs p):=λp hp=>pP g p (by lia)
  dsimp only;refine ax (c7 (bF (I:=λx c B=>B=cJ st xs/\∃ l r,c=(none,l,r)/\l<=r/\r<=k/\r - l<=k - x /\
    (∀i,i<l->lt (at0 xs (lo+k)) (at0 xs (lo+i))=false)/\(∀i,r<=i->i<k->lt (at0 xs (lo+i)) (at0 xs (lo+k))=false))
   (Q:=λc B=>B=cJ st xs/\∃ l r,c=(none,l,r)/\l<=k /\
    (∀i,i<l->lt (at0 xs (lo+k)) (at0 xs (lo+i))=false)/\(∀i,l<=i->i<k->lt (at0 xs (lo+i)) (at0 xs (lo+k))=false)) ?istep ?ifin ?iinit) ?ipost)
  case iinit=>exact⟨rfl,0,k,rfl,by lia,by lia,by lia,λi hi=>by lia,λi h1 h2=>by lia⟩
  case ifin =>
   rintro c B ⟨rfl,l,r,rfl,hlr,N,hm,J,L⟩
   have:l=r:=by lia
   subst this;exact⟨rfl,l,l,rfl,N,J,L⟩
  case istep =>
   rintro x c B _ hxk ⟨rfl,l,r,rfl,hlr,N,hm,J,L⟩;dsimp only
   by_cases hge:l>=r
   ·rw[if_pos hge]
    have:l=r:=by lia
    subst this;exact aC ⟨rfl,l,l,rfl,N,J,L⟩
   ·rw[if_neg hge];refine ax (aZc o hk PA g (i:=lo+k) (j:=lo+(l+r)/2) (by lia) (by lia) ?_)
    dsimp only;cases e:lt (at0 xs (lo+k)) (at0 xs (lo+(l+r)/2)) with
    |true =>
     rw[if_pos rfl];refine aC ⟨rfl,l,(l+r)/2,rfl,by lia,by lia,by lia,J,λi h1 h2=>?_⟩
     have e2:=o.as _ _ (pp _ (by lia)) (pp _ (by lia)) e
     rcases Nat.eq_or_lt_of_le h1 with z|z
     ·rw[<- z];exact e2
     ·exact o.tr _ _ _ (pp _ (by lia)) (pp (lo+(l+r)/2) (by lia)) (pp _ (by lia)) e2 (hu _ _ (by lia) (by lia) (by lia))
    |false =>
     rw[if_neg (by simp)]
     refine aC ⟨rfl,(l+r)/2+1,r,rfl,by lia,by lia,by lia,λi h1=>?_,L⟩
     rcases Nat.eq_or_lt_of_le (show i<=(l+r)/2 by lia) with z|z
     ·rw[z];exact e
     ·exact o.tr _ _ _ (pp _ (by lia)) (pp (lo+(l+r)/2) (by lia)) (pp _ (by lia)) (hu _ _ (by lia) (by lia) (by lia)) e
  case ipost =>
   rintro c B ⟨rfl,l,r,rfl,hlk,J,L⟩;show wpS _ _ _ _ (do moveDown' (lo+k) (lo+l);pure (bz (none,()))) _ _
   rw[moveDown'_eq];have O:lo+k<xs.size:=by lia
   have ed:lo+k-(lo+l)=k-l:=by lia
   refine ax (cN (aC ⟨bubble xs (lo+k) (lo+k-(lo+l)),rfl,rfl,⟨(bubble_perm _ _ _).trans g.1,λi hi=>?_⟩,?_⟩))
   ·rw[getElem?_bubble O _ (by lia),if_neg (by lia),if_neg (by lia)]
    exact g.2 i hi
   ·rw[show min (k+1) n=k+1 by lia]
    intro p q h1 h2 h3;rw[bub_at O (by lia),bub_at O (by lia),show lo+k-(lo+k-(lo+l))=lo+l by lia]
    have Y:∀i,lo<=i->i<lo+l->lt (at0 xs (lo+k)) (at0 xs i)=false:=λi a b=>by
     have:=J (i-lo) (by lia)
     rwa [show lo+(i-lo)=i by lia] at this
    have Z:∀i,lo+l<=i->i<lo+k->lt (at0 xs i) (at0 xs (lo+k))=false:=λi a b=>by
     have:=L (i-lo) (by lia) (by lia)
     rwa [show lo+(i-lo)=i by lia] at this
    repeat' split
    all_goals first
     |(exfalso;lia)
     |exact Y _ (by lia) (by lia)
     |exact Z _ (by lia) (by lia)
     |exact hu _ _ (by lia) (by lia) (by lia)
end
def offs:Nat->List (List aJ)->List (Nat×Nat)
 |_,[]=>[]
 |k,s::ss=>(k,s.length)::offs (k+s.length) ss
theorem bQq:∀k ss,(offs k ss).length=ss.length
 |_,[]=>rfl
 |k,s::ss=>by simp[offs,bQq]
theorem aJe:∀k (s1 s2:List (List aJ)),offs k (s1++s2)=offs k s1++offs (k+s1.flatten.length) s2
 |k,[],s2=>by simp[offs]
 |k,s::s1,s2=>by simp[offs,aJe,Nat.add_assoc]
def sl(x:Nat×Nat×Nat):Nat×Nat:=(x.1,x.2.1)
structure Pn(κ:eD)(P:aJ->Prop)(lt:aJ->aJ->Bool)(a0:List aJ)(st:cM)(segs:List (List aJ))(rest:List aJ):Prop where
 kind:kindOf st=κ
 fl:fh st=none
 arr:(aO st).toList=segs.flatten++rest
 perm:(aO st).toList.Perm a0
 sd:∀sg∈segs,Sd lt sg/\sg≠[]
 pd:(bC st).toList.map sl=offs 0 segs
section
variable{prog:aE}{w:aQ}{A:aW}{E:ad->ah->Prop}{s:ah}{κ:eD}{P:aJ->Prop}{lt:aJ->aJ->Bool}{st:cM}{a0 rest:List aJ}{segs:List (List aJ)}
theorem Pn.psize(h:Pn κ P lt a0 st segs rest):(bC st).size=segs.length:=by
 have:=congrArg iu h.pd
 rwa [ak,bQq,aH] at this
theorem Pn.size(h:Pn κ P lt a0 st segs rest):(aO st).size=a0.length:=by rw[<- aH];exact h.perm.length_eq
theorem Pn.room(h:Pn κ P lt a0 st segs rest):segs.flatten.length+rest.length=a0.length:=by rw[<- aG,<- h.arr];exact h.perm.length_eq
theorem dQt(o:Orc prog w A s κ P lt)(PA:∀x∈a0,P x)(h:Pn κ P lt a0 st segs rest){i:Nat}(hi:i+1<segs.length){Q:Bool->cM->Prop}
  (hq:∀st' segs',Pn κ P lt a0 st' segs' rest->segs'.length+1=segs.length->segs'.flatten.length=segs.flatten.length->Q true st'):wpS (aB prog w) A E s (mergeAt' i) Q st:=by
 obtain⟨S1,j,J,N,rfl,rfl⟩:∃S1 j J N,segs=S1++j::J::N/\S1.length=i:=by
  refine⟨segs.take i,segs[i],segs[i+1],segs.drop (i+2),?_,by rw[a6];lia⟩
  rw[<- cv hi,<- cv (by lia),bo]
 have L:=h.pd;rw[aJe,Nat.zero_add] at L;obtain⟨p1,p2',e1,e2,e3⟩:=List.map_eq_append_iff.mp L;simp only[offs] at e3;obtain⟨x,p2'',rfl,ex,e4⟩:=List.map_eq_cons_iff.mp e3;obtain⟨y,p2,rfl,ey,e5⟩:=List.map_eq_cons_iff.mp e4;have D:p1.length=S1.length:=by rw[<- ak (f:=sl),e2,bQq]
 have g1:(bC st)[S1.length]?=some (S1.flatten.length,j.length,x.2.2):=by
  rw[<- aU,e1,<- D,bR (Nat.le_refl _),Nat.sub_self,iV];obtain⟨x1,x2,x3⟩:=x;cases ex;rfl
 have g2:(bC st)[S1.length+1]?=some (S1.flatten.length+j.length,J.length,y.2.2):=by
  rw[<- aU,e1,<- D,bR (by lia),Nat.add_sub_cancel_left,List.getElem?_cons_succ,iV]
  obtain⟨y1,y2,y3⟩:=y;cases ey;rfl
 have Y:=h.sd j (by simp)
 have sB:=h.sd J (by simp)
 have hl:(aO st).toList=S1.flatten++(j++(J++(N.flatten++rest))):=by rw[h.arr];simp
 have pm:∀x∈j++J,P x:=λx B=>PA x (h.perm.mem_iff.mp (by rw[hl];simp at B ⊢;grind))
 refine eZo o h.kind h.fl g1 g2 rfl hl rfl rfl rfl (cV.mpr Y.2) (cV.mpr sB.2) (λx B=>pm x (c5 _ B)) (λx B=>pm x (bf _ B)) Y.1 sB.1 λC g xs B hC hp=>?_;have O:=hp.length_eq;rw[aG] at O;refine hq _ (S1++C::N) ⟨rfl,rfl,?_,?_,λsg Z=>?_,?_⟩ (by simp only[aG,cT];lia) (by simp;lia)
 ·show xs.toList=_;rw[B];simp
 ·show xs.toList.Perm _;refine jq.trans ?_ h.perm;rw[B,hl];refine d4 _ ?_
  have:=dR (N.flatten++rest) hp
  rwa [aY j] at this
 ·rcases aN.mp Z with z|z
  ·exact h.sd sg (by simp[z])
  ·rcases aM.mp z with rfl|z
   ·exact⟨hC,λe=>by
     have:=cV.mpr Y.2
     rw[e] at O;simp at O;lia⟩
   ·exact h.sd sg (by simp[z])
 ·show(((bC st).setIfInBounds S1.length (S1.flatten.length,j.length+J.length,x.2.2)).eraseIdxIfInBounds (S1.length+1)).toList.map sl=_;rw[Array.toList_eraseIdxIfInBounds,ii,e1,<- D,List.set_append_right _ _ (Nat.le_refl _),Nat.sub_self,List.set_cons_zero,List.eraseIdx_append_of_length_le (by lia),Nat.add_sub_cancel_left,List.eraseIdx_cons_succ,List.eraseIdx_cons_zero,b9,bg,e2,e5,aJe]
  simp[offs,sl,O,Nat.add_assoc]
theorem Pn.next(h:Pn κ P lt a0 st segs rest){xs:Array aJ}{n:Nat}(hn:1<=n)(hs:segs.flatten.length+n<=a0.length)(g:Gd segs.flatten.length (aO st) xs)(hu:Up lt xs segs.flatten.length (segs.flatten.length+n)) :
  ∃sg rest',sg.length=n/\Sd lt sg/\sg≠[]/\Pn κ P lt a0 (cJ st xs) segs (sg++rest'):=by
 have O:xs.toList.length=a0.length:=by rw[aH,g.size,h.size]
 have J:xs.toList.take segs.flatten.length=segs.flatten:=by
  have:(aO st).toList.take segs.flatten.length=segs.flatten:=by rw[h.arr,cu (Nat.le_refl _),dY]
  rw[<- this];refine e7 λi=>?_;rw[List.getElem?_take,List.getElem?_take,this]
  split
  ·next hi=>rw[aU,aU];exact g.2 i hi
  ·rfl
 refine⟨(xs.toList.drop segs.flatten.length).take n,(xs.toList.drop segs.flatten.length).drop n,by rw[a6,bE];lia,?_,λe=>?_,h.kind,h.fl,?_,?_,h.sd,h.pd⟩
 ·refine cw.mpr λi j hi L N=>?_;rw[a6,bE] at hi L
  have:=hu (segs.flatten.length+i) (segs.flatten.length+j) (by lia) (by lia) (by lia)
  have D:∀k,segs.flatten.length+k<xs.toList.length->∀B,((xs.toList.drop segs.flatten.length).take n)[k]'B=at0 xs (segs.flatten.length+k):=λk h1 B=>by
   rw[iz,iy];unfold at0;rw[<- aU,ag h1]
   rfl
  rw[D i (by lia),D j (by lia)]
  exact this
 ·have:=congrArg iu e
  rw[a6,bE,dM] at this;lia
 ·show xs.toList=_;rw[bo]
  conv=>lhs;rw[<- bo segs.flatten.length xs.toList,J]
 ·exact(cO.mp g.1).trans h.perm
theorem Pn.push{sg rest':List aJ}(h:Pn κ P lt a0 st segs (sg++rest'))(hs:Sd lt sg)(hne:sg≠[]){lo n:Nat}(hlo:segs.flatten.length=lo)(hn:sg.length=n):Pn κ P lt a0 (fj st ((bC st).push (lo,n,0))) (segs++[sg]) rest':=by
 subst hlo hn;refine⟨h.kind,h.fl,?_,h.perm,λx j=>?_,?_⟩
 ·show(aO st).toList=_;rw[h.arr];simp
 ·rcases aN.mp j with z|z
  ·exact h.sd x z
  ·rw[aL.mp z];exact⟨hs,hne⟩
 ·show((bC st).push _).toList.map sl=_;rw[cm,b9,h.pd,aJe];simp[offs,sl]
theorem Pn.repow(h:Pn κ P lt a0 st segs rest)(i pw:Nat):Pn κ P lt a0 (fj st ((bC st).modify i λx=>(x.1,x.2.1,pw))) segs rest:=by
 refine⟨h.kind,h.fl,h.arr,h.perm,h.sd,?_⟩;show((bC st).modify i _).toList.map sl=_;rw[<- h.pd,Array.toList_modify];refine e7 λj=>?_;rw[aK,aK,List.getElem?_modify]
 by_cases c:i=j
 ·simp only[c,if_true];cases (bC st).toList[j]? <;> rfl
 ·simp only[c,if_false];cases (bC st).toList[j]? <;> rfl
theorem bJ8:∀(ss:List (List aJ)),(∀sg∈ss,sg≠[])->ss.length<=ss.flatten.length
 |[],_=>Nat.le_refl _
 |s::ss,h=>by
  have:=bJ8 ss λx j=>h x (.tail _ j)
  have:=cV.mpr (h s (.head _))
  rw[List.flatten_cons,aG,cT];lia
end
section
variable{prog:aE}{w:aQ}{A:aW}{E:ad->ah->Prop}{s:ah}{κ:eD}{P:aJ->Prop}{lt:aJ->aJ->Bool}{st:cM}{a0 rest:List aJ}{segs:List (List aJ)}
theorem dX2(o:Orc prog w A s κ P lt)(PA:∀x∈(aO st).toList,P x)(hk:kindOf st=κ)(hf:fh st=none)(hp:bC st=#[]){Q:Unit->cM->Prop}
  (h:∀st',(aO st').toList.Perm (aO st).toList->fh st'=none->Sd lt (aO st').toList->Q () st'):wpS (aB prog w) A E s sortRuns' Q st:=by
 have h0:Pn κ P lt (aO st).toList st [] (aO st).toList:=⟨hk,hf,rfl,dE _,λ_ N=>absurd N gu,by rw[hp];rfl⟩
 have pA:∀ {st' segs rest},Pn κ P lt (aO st).toList st' segs rest->∀ x∈(aO st').toList,P x:=λI x N=>PA x (I.perm.mem_iff.mp N);rw[sortRuns'_eq];refine ax (gU ?_);dsimp only;have lz:(aO st).toList.length=(aO st).size:=aH;refine ax (c7 (bF
  (I:=λx c st'=>∃segs rest,c=(none,segs.flatten.length)/\Pn κ P lt (aO st).toList st' segs rest/\x<=segs.flatten.length)
  (Q:=λc st'=>∃segs,c=(none,segs.flatten.length)/\Pn κ P lt (aO st).toList st' segs []) ?step ?fin ⟨[],_,rfl,h0,Nat.le_refl _⟩) ?post)
 case fin =>
  rintro c st' ⟨segs,rest,rfl,I,N⟩;have r:=I.room;obtain rfl:rest=[]:=bX (by lia)
  exact⟨segs,rfl,I⟩
 case post =>
  rintro c st' ⟨segs,rfl,I⟩;have r:=I.room;rw[dM] at r;have fl:=bJ8 segs λsg hsg=>(I.sd sg hsg).2;dsimp only;refine ax (c7 (bF (I:=λx c st'=>∃ segs,c=(none,())/\Pn κ P lt (aO st).toList st' segs []/\(segs.length<=1\/segs.length + x<=(aO st).size))
   (Q:=λc st'=>∃segs,c=(none,())/\Pn κ P lt (aO st).toList st' segs []/\segs.length<=1) ?_ ?_ ⟨segs,rfl,I,by lia⟩) ?_)
  ·rintro x c st' _ N ⟨segs,rfl,I,hc⟩;refine ax (gU ?_);have hps:=I.psize
   by_cases c1:(bC st').size<=1
   ·rw[if_pos c1];exact aC ⟨segs,rfl,I,by lia⟩
   ·rw[if_neg c1];have hi:∀b:Bool,(if b=true then (bC st').size-2-1 else (bC st').size-2)+1<segs.length:=λb=>by split <;> lia
    refine ax (dQt o PA I (hi _) λJ j I2 l2 _=>?_);exact aC ⟨j,rfl,I2,by lia⟩
  ·rintro c st' ⟨segs,rfl,I,hc⟩;exact⟨segs,rfl,I,by lia⟩
  ·rintro c st' ⟨segs,rfl,I,hc⟩;refine aC (h st' I.perm I.fl ?_);rw[I.arr,br]
   match segs,hc,I with
   |[],_,_=>exact fV
   |[sg],_,I=>rw[dU];exact(I.sd sg (.head _)).1
 case step =>
  rintro x c st' _ N ⟨segs,rest,rfl,I,hxs⟩;have r:=I.room;have sz:=I.size;dsimp only
  by_cases c1:segs.flatten.length>=(aO st).size
  ·rw[if_pos c1];obtain rfl:rest=[]:=bX (by lia)
   exact aC ⟨segs,rfl,I⟩
  rw[if_neg c1];refine ax (eZp o I.kind (pA I) (lo:=segs.flatten.length) (by lia) (by lia) λn xs n1 n2 g hu=>?_)
  dsimp only
  by_cases c2:n<minRun' (aO st).size (aO st).size 0
  rw[if_pos c2];refine ax (ig (cx ⟨rfl,?_⟩));refine ax (eZq o (st:=cJ st' xs) I.kind (λx N=>pA I x ((cO.mp g.1).mem_iff.mp N)) (by have:=g.size;show _<=xs.size;lia) (by lia) hu λys g2 hu2=>?_)
  rw[if_neg (by simp)]
  obtain⟨sg,B,ls,hs,L,I2⟩:=I.next (by lia) (by lia) ⟨g2.1.trans g.1,λi hi=>(g2.2 i hi).trans (g.2 i hi)⟩ hu2
  change Pn κ P lt _ (cJ (cJ st' xs) ys) _ _ at I2
  rotate_left
  rw[if_neg c2];obtain⟨sg,B,ls,hs,L,I2⟩:=I.next n1 (by lia) g hu
  all_goals
   have lp:=cV.mpr L;refine ax (gU ?_)
   split
   next s1 n1' _ hb =>
    refine ax (c7 (bF (I:=λ_ c D=>∃ j,c=(none,())/\Pn κ P lt (aO st).toList D j (sg++B)/\j.flatten.length=segs.flatten.length)
     (Q:=λc D=>∃j,c=(none,())/\Pn κ P lt (aO st).toList D j (sg++B)/\j.flatten.length=segs.flatten.length) ?_ (λ_ _ hh=>hh) ⟨segs,rfl,I2,rfl⟩) ?_)
    ·rintro y c J _ hy ⟨j,rfl,Z,Y⟩;refine ax (gU ?_);have hps:=Z.psize
     split
     next older he =>
      have hgt:(bC J).size>1:=by
       by_cases z:(bC J).size>1
       ·exact z
       ·rw[if_neg z] at he;cases he
      split
      ·exact aC ⟨j,rfl,Z,Y⟩
      ·refine ax (dQt o PA Z (by lia) λst4 O I4 _ l4=>?_)
       exact aC ⟨O,rfl,I4,l4.trans Y⟩
     next=>exact aC ⟨j,rfl,Z,Y⟩
    ·rintro c J ⟨j,rfl,Z,Y⟩;dsimp only;refine ax (cN (ax (cN (aC ⟨j++[sg],B,?_,(Z.repow _ _).push hs L Y ls,?_⟩))))
     ·rw[dh,aG,dU,ls,Y]
     ·rw[dh,aG,dU,Y];lia
   next =>
    refine ax (cN (aC ⟨segs++[sg],B,?_,I2.push hs L rfl ls,?_⟩))
    ·rw[dh,aG,dU,ls]
    ·rw[dh,aG,dU];lia
end
theorem aZy{α:Type}:∀{l:List α}{x y:α},(x,y)∈l.zip l->x=y/\x∈l
 |a::l,x,y,h=>by
  rw[eQ] at h;rcases aM.mp h with e|h
  ·cases e;exact⟨rfl,.head _⟩
  ·exact⟨(aZy h).1,.tail _ (aZy h).2⟩
section
variable{prog:aE}{w:aQ}{A:aW}{E:ad->ah->Prop}{s:ah}
theorem cJk{α:Type}{R:α->α->Prop}:∀l:List α,l.length<2->l.Pairwise R
 |[],_=>.nil
 |[x],_=>bY _ _
theorem sort_any{a:Addr}{vs:List ad}{n:Nat}{P:iW->ah->Prop}(lt:ad->ad->Bool)(hz:vs.length<=sizeLine)(ho:s.heap.get? a=some (b7 "list" vs.toArray n))
  (H:∀h2:aX,(∀b o,b≠a->s.heap.get? b=some o->h2.get? b=some o)->2<=vs.length->∀(Q:eD->ah->Prop),(∀κ,Orc prog w A {s with heap:=h2} κ (λx=>x.1∈vs) (λx y=>lt x.1 y.1)->Q κ {s with heap:=h2})->aF (aB prog w) A (keyKind' vs.toArray) Q E {s with heap:=h2})
  (h:∀xs:Array aJ,xs.Perm (gH vs)->xs.toList.Pairwise (λx y=>lt y.1 x.1=false)->P (.done (.ret .none)) {s with heap:=gw s.heap a vs (xs.map (·.2))}) :
  aF (aB prog w) A (bU.«list.sort» ⟨[.ref a],[]⟩) P E s:=by
 rw[list_sort_plain];have ha:a<s.heap.objs.size:=aA ho;refine aa (listItems_at ho rfl ?_);refine aa (listUpdate_at ho rfl ?_ (by rw[av];exact hz) (Nat.zero_le _))
 obtain⟨e1,D⟩:∃e1,(s.heap.update a (bD λ_=>#[])).get? a=some (b7 "list" #[] e1):=⟨_,d8 ho (λ_=>#[])⟩;refine aa (seqEpoch_at D rfl ?_);refine aa (wpAny_newTuple ?_ (by show vs.length<=_;exact hz))
 refine aa (wpAny_newList ?_ (Nat.zero_le _));refine bb ?_;have N:=cF s.heap a (bD λ_=>(#[]:Array ad));have B:(((s.heap.update a (bD λ_=>#[])).push (b7 "tuple" vs.toArray 0)).push (b7 "list" #[] 0)).get? a=some (b7 "list" #[] e1):=af _ (af _ D);have kp:∀b o,b≠a->s.heap.get? b=some o->(((s.heap.update a (bD λ_=>#[])).push (b7 "tuple" vs.toArray 0)).push (b7 "list" #[] 0)).get? b=some o:=λb o Y e=>af _ (af _ ((N.2 b Y).trans e));show aF (aB prog w) A _ P E {s with heap:=((s.heap.update a (bD λ_=>#[])).push (b7 "tuple" vs.toArray 0)).push (b7 "list" #[] 0)}
 dsimp only;have J:(gH vs).size=vs.length:=pairsOf_size vs
 by_cases h2:vs.toArray.size<2
 ·rw[if_pos h2,if_pos h2];refine aa (ae ?_);rw[StateT.run_pure];refine aa (ae ?_);dsimp only;refine aa (seqEpoch_at B rfl ?_);refine aa (listUpdate_at B rfl ?_ (Nat.zero_le _) (by rw[Array.size_map];show(gH vs).size<=_;rw[J];exact Nat.le_succ_of_le hz))
  simp only[bne_self_eq_false,bS,if_false];refine ae (h (gH vs) (jf _) ?_)
  have:(gH vs).toList.length<2:=by rw[aH,J];simpa using h2
  exact cJk _ this
 ·rw[if_neg h2,if_neg h2];refine aa (H _ kp (by simpa using h2) _ fun κ o=>?_)
  refine aa (cj (dX2 o (st:=ie κ (vs.toArray.zip vs.toArray) #[] 7 none) (Q:=λ_ j=>(aO j).toList.Perm (gH vs).toList/\fh j=none/\Sd (λx y:aJ=>lt x.1 y.1) (aO j).toList)
   (λx O=>(aZy (x:=x.1) (y:=x.2) (by rw[<- ij];exact O)).2) rfl rfl rfl λj a1 a2 Z=>⟨a1,a2,Z⟩) ?_ λ_ _ e=>e)
  rintro⟨⟨⟩,j⟩ s' ⟨rfl,L,hf,hs⟩;dsimp only;refine aa (seqEpoch_at B rfl ?_);refine aa (listUpdate_at B rfl ?_ (Nat.zero_le _) (by rw[Array.size_map,<- aH,L.length_eq,aH,J];exact Nat.le_succ_of_le hz))
  rw[hf];simp only[bne_self_eq_false,bS,if_false];exact ae (h _ (cO.mpr L) hs)
theorem treeK{κ:KeyKind}(hO:κ.OneLt){a:Addr}{vs:List ad}{n:Nat}{P:iW->ah->Prop}(ho:s.heap.get? a=some (b7 "list" vs.toArray n))
  (h0:KeysOf κ (gH vs)) (hkk:∀v₁ v₂ rest,vs=v₁::v₂::rest->keyKind' (v₁::v₂::rest).toArray=pure oneType') (hz:vs.length<=sizeLine)
  (h:∀st':cM,(aO st').Perm (gH vs)->SortedToK κ (aO st') (gH vs).size->P (.done (.ret .none)) {s with heap:=gw s.heap a vs ((aO st').map (·.2))}) :
  aF (aB prog w) A (bU.«list.sort» ⟨[.ref a],[]⟩) P E s:=by
 have key:∀ v∈vs,∃ x,κ.keyOf v=some x:=λv hv=>h0 (v,v) (by
  rw[ij];obtain⟨i,hi,e⟩:=cg hv;exact List.mem_iff_getElem.mpr ⟨i,by simpa using hi,by simp[e]⟩)
 refine sort_any (λu v=>κ.blt ((κ.keyOf u).getD κ.dflt) ((κ.keyOf v).getD κ.dflt)) hz ho (λh2 kp O Q hq=>?_) λxs D hs=>h (ie oneType' xs #[] 7 none) D λi j N hj=>?_
 ·obtain⟨v₁,v₂,rest,rfl⟩:∃v₁ v₂ rest,vs=v₁::v₂::rest:=by
   match vs,O with
   |v₁::v₂::rest,_=>exact⟨v₁,v₂,rest,rfl⟩
  rw[hkk _ _ _ rfl];refine ae (hq _ ⟨λx y Q hx hy q=>?_,λx y _ _ e=>KeyOrd.klt_asymm e,λx y z _ _ _ e1 e2=>KeyOrd.kle_trans e1 e2⟩);obtain⟨p,D⟩:=key _ hx;obtain⟨Z,B⟩:=key _ hy;rw[keyLt'_oneType];refine hO _ _ _ _ _ _ _ p Z D B ?_;rw[D,B] at q;exact q
 ·show κ.kle (KK κ xs i) (KK κ xs j);rcases Nat.eq_or_lt_of_le N with rfl|J
  ·exact KeyOrd.kle_refl _
  ·have sz:=D.size_eq;have Y:∀k (L:k<xs.size),KK κ xs k=(κ.keyOf (xs.toList[k]'(by simpa using L)).1).getD κ.dflt:=λk L=>by
    unfold KK;rw[<- aU,ag (by simpa using L)]
   rw[Y i (by lia),Y j (by lia)]
   exact cw.mp hs i j (by simp;lia) (by simp;lia) J
def iv:ad->Int
 |.int n _=>n
 |_=>0
theorem treeI{a:Addr}{vs:List ad}{ns:List Int}{n:Nat}{P:iW->ah->Prop}(ho:s.heap.get? a=some (b7 "list" vs.toArray n))(hI:gC vs ns)(hz:vs.length<=sizeLine)
  (h:∀(out:Array ad) (ns':List Int),gC out.toList ns'->ns'.Perm ns->ns'.Pairwise (·<=·)->P (.done (.ret .none)) {s with heap:=gw s.heap a vs out}) :
  aF (aB prog w) A (bU.«list.sort» ⟨[.ref a],[]⟩) P E s:=by
 have key:∀ v∈vs,∃ x t,v=.int x t:=λv hv=>hI.intKeys (v,v) (by
  rw[ij];obtain⟨i,hi,e⟩:=cg hv;exact List.mem_iff_getElem.mpr ⟨i,by simpa using hi,by simp[e]⟩)
 refine sort_any (λu v=>decide (iv u<iv v)) hz ho (λh2 kp Z Q hq=>?_) λxs J hs=>?_
 ·obtain⟨D,B,rest,rfl⟩:∃D B rest,vs=D::B::rest:=by
   match vs,Z with
   |D::B::rest,_=>exact⟨D,B,rest,rfl⟩
  rw[keyKind_ints hI];refine ae (hq _ ⟨λx y Q hx hy q=>?_,λx y _ _ e=>by simp at e ⊢;lia,λx y z _ _ _ e1 e2=>by simp at e1 e2 ⊢;lia⟩)
  obtain⟨p,t,J⟩:=key _ hx;obtain⟨p',t',N⟩:=key _ hy;rw[keyLt'_oneType];rw[J,N] at q ⊢;exact oneLt_int q
 ·have sz:=J.size_eq;obtain⟨ns',h1,h2,h3⟩:=sorted_out hI J (λi j Y hj=>by
   rcases Nat.eq_or_lt_of_le Y with rfl|O
   ·exact Int.le_refl _
   ·have ei:∀k (L:k<xs.size),K xs k=iv (xs.toList[k]'(by simpa using L)).1:=λk L=>by
     have hm:xs.toList[k]'(by simpa using L)∈(gH vs).toList:=(cO.mp J).mem_iff.mp (cS _)
     obtain⟨p,t,e⟩:=hI.intKeys _ hm;unfold K;rw[<- aU,ag (by simpa using L)]
     generalize xs.toList[k]'(by simpa using L)=z at e
     obtain⟨z1,z2⟩:=z;cases e
     rfl
    rw[ei i (by lia),ei j (by lia)]
    have:=cw.mp hs i j (by simp;lia) (by simp;lia) O
    have:=of_decide_eq_false this
    lia)
  exact h _ ns' h1 h2 h3
end
end SF
set_option maxHeartbeats 1000000
namespace HT
open PySem
theorem ltS_tot{a b:Str}(h:ltS a b=false)(hne:a≠b):ltS b a=true:=by
 unfold ltS at *
 refine decide_eq_true ?_;have h1:=of_decide_eq_false h;refine ba λh2=>hne ?_;have e:a.cps.toList=b.cps.toList:=List.le_antisymm (List.not_lt.mp h2) (List.not_lt.mp h1);cases a;cases b
 congr 1
 exact Array.toList_inj.mp e
theorem ltS_tr{a b c:Str}(h:ltS a b=true)(h':ltS b c=true):ltS a c=true:=decide_eq_true (List.lt_trans (of_decide_eq_true h) (of_decide_eq_true h'))
theorem ltS_ir(a:Str):ltS a a=false:=decide_eq_false (List.lt_irrefl _)
theorem ltS_as{a b:Str}(h:ltS a b=true):ltS b a=false:=decide_eq_false (List.lt_asymm (of_decide_eq_true h))
theorem lexS_tot:∀{a b:List Str},lexS a b=false->a≠b->lexS b a=true
 |[],[],_,h=>absurd rfl h
 |[],_::_,h,_=>by cases h
 |_::_,[],_,_=>rfl
 |x::xs,y::ys,h,j=>by
  rw[lexS_cons] at h ⊢
  by_cases e:x=y
  ·rw[if_pos e] at h;rw[if_pos e.symm];exact lexS_tot h λz=>j (by rw[e,z])
  ·rw[if_neg e] at h;rw[if_neg λz=>e z.symm];exact ltS_tot h e
theorem lexS_as:∀{a b:List Str},lexS a b=true->lexS b a=false
 |[],[],h=>by cases h
 |[],_::_,_=>rfl
 |_::_,[],h=>by cases h
 |x::xs,y::ys,h=>by
  rw[lexS_cons] at h ⊢
  by_cases e:x=y
  ·rw[if_pos e] at h;rw[if_pos e.symm];exact lexS_as h
  ·rw[if_neg e] at h;rw[if_neg (λz=>e z.symm)];exact ltS_as h
theorem lexS_tr:∀{a b c:List Str},lexS a b=true->lexS b c=true->lexS a c=true
 |[],[],_,h,_=>by cases h
 |[],_::_,[],_,h=>by cases h
 |[],_::_,_::_,_,_=>rfl
 |_::_,[],_,h,_=>by cases h
 |_::_,_::_,[],_,h=>by cases h
 |x::xs,y::ys,z::zs,h,h'=>by
  rw[lexS_cons] at h h' ⊢
  by_cases e:x=y
  ·subst e;rw[if_pos rfl] at h
   by_cases j:x=z
   ·rw[if_pos j] at h' ⊢;exact lexS_tr h h'
   ·rw[if_neg j] at h' ⊢;exact h'
  ·rw[if_neg e] at h
   by_cases j:y=z
   ·subst j;rw[if_neg e];exact h
   ·rw[if_neg j] at h';have hxz:=ltS_tr h h'
    have:x≠z:=by rintro rfl;rw[ltS_ir] at hxz;cases hxz
    rw[if_neg this];exact hxz
end HT
namespace KS
open PySem PySem.W PyProof.Rows
theorem TS.keep{h h':aX}{v:ad}{d:List Str}(t:TS h v d)(k:∀b o,h.get? b=some o->o.cls=.type "tuple"->h'.get? b=some o):TS h' v d:=by
 obtain⟨b,items,e,⟨o,B,j,r⟩,p⟩:=t;exact⟨b,items,e,⟨o,k b o B j,j,r⟩,p⟩
section
variable{prog:aE}{w:aQ}{A:aW}{E:ad->ah->Prop}{s:ah}
theorem TS.uniq{h:aX}{v:ad}{d d':List Str}(t:TS h v d)(t':TS h v d'):d=d':=by
 obtain⟨b,items,rfl,⟨o,D,Y,n,hd⟩,p⟩:=t;obtain⟨b',j,e,⟨o',ho',B,Z,hd'⟩,N⟩:=t';cases e;rw[D] at ho';cases ho';rw[hd] at hd';cases hd';clear hd D Y B;have go:∀{l:List ad}{d d':List Str},HT.SAre l d->HT.SAre l d'->d=d':=by
  intro l d d' p
  induction p generalizing d' with
  |nil=>intro q;cases q;rfl
  |cons z _ O =>
   intro q;cases q with
   |cons J L =>
    obtain⟨t,e⟩:=z;obtain⟨t',e'⟩:=J;rw[e] at e';cases e';rw[O L]
 exact go p N
open Classical in
noncomputable def dec(h:aX)(v:ad):List Str:=if e:∃d,TS h v d then e.choose else []
theorem cZd{h:aX}{v:ad}{d:List Str}(t:TS h v d):dec h v=d:=by
 unfold dec;have e:∃d,TS h v d:=⟨d,t⟩;rw[dif_pos e];exact e.choose_spec.uniq t
theorem dX3{a b c:List Str}(h1:HT.lexS b a=false)(h2:HT.lexS c b=false):HT.lexS c a=false:=by
 cases e:HT.lexS c a with
 |false=>rfl
 |true =>
  by_cases z:b=a
  ·subst z;rw[h2] at e;cases e
  ·have:=HT.lexS_tr e (HT.lexS_tot h1 z)
   rw[h2] at this;cases this
theorem cJl{α β:Type}{f:α->β}{l:List β}{k:List β}(h:l.Perm k):∀{m:List α},k=m.map f->∃m':List α,m'.Perm m/\l=m'.map f:=by
 induction h with
 |nil=>exact λe=>⟨_,dE _,e⟩
 |cons x _ N =>
  intro m e;cases m with
  |nil=>cases e
  |cons a m =>
   rw[bg] at e;injection e with e1 e2
   obtain⟨m',p,q⟩:=N e2;exact⟨a::m',p.cons a,by rw[bg,q,e1]⟩
 |swap x y l =>
  intro m e;cases m with
  |nil=>cases e
  |cons a m =>
   cases m with
   |nil=>simp at e
   |cons b m =>
    rw[bg,bg] at e;injection e with e1 e2
    injection e2 with e2 O
    exact⟨b::a::m,.swap _ _ _,by rw[bg,bg,e1,e2,O]⟩
 |trans p q B j =>
  intro m e;obtain⟨Y,J,e1⟩:=j e;obtain⟨L,D,e2⟩:=B e1;exact⟨L,D.trans J,e2⟩
theorem cZe{α:Type}(l:List α)(d:α):((bQ l.length).map λi=>l.getD i d)=l:=by
 apply gx
 ·simp
 ·intro i h1 h2;simp only[iX,List.getElem_range,am];rw[ag h2]
  rfl
theorem sort_tupsL{a:Addr}{vs:List ad}{ds:List (List Str)}{n:Nat}{P:iW->ah->Prop}(hu:A.units<de)(ho:s.heap.get? a=some (b7 "list" vs.toArray n))(hp:bG (TS s.heap) vs ds)(hz:vs.length<=sizeLine)
  (h:∀ (idx:List Nat) (h':aX) (c:Nat),idx.Perm (bQ vs.length)->(idx.map λi=>ds.getD i []).Pairwise (λa b=>HT.lexS b a=false)->(idx.map λi=>ds.getD i []).Perm ds->h'.get? a=some (b7 "list" (idx.map λi=>vs.getD i cL).toArray c) ->
   (∀b o,b≠a->s.heap.get? b=some o->h'.get? b=some o)->P (.done (.ret .none)) {s with heap:=h'}) :
  aF (aB prog w) A (bU.«list.sort» ⟨[.ref a],[]⟩) P E s:=by
 have hl:vs.length=ds.length:=dW hp;have at_:∀i,i<vs.length->TS s.heap (vs.getD i cL) (ds.getD i []):=λk hk=>by
  obtain⟨d,hd,t⟩:=L2.Paired.get' hp (ag hk);rw[am,am,hd,ag hk];exact t
 have B:∀v∈vs,TS s.heap v (dec s.heap v):=λv hv=>by
  obtain⟨i,hi,e⟩:=cg hv
  have:=at_ i hi
  rw[am,ag hi] at this;have e2:TS s.heap v (ds.getD i []):=by rw[<- e];exact this
  rw[cZd e2];exact e2
 refine SF.sort_any (λu v=>HT.lexS (dec s.heap u) (dec s.heap v)) hz ho (λh2 kp Z Q hq=>?_) λxs L hs=>?_
 ·have kt:∀ b o,s.heap.get? b=some o->o.cls=.type "tuple"->h2.get? b=some o:=λb o e c=>kp b o (by
   rintro rfl;rw[ho] at e;have e':=aR e;rw[<- e'] at c;have c':d0 "list"=d0 "tuple":=c;injection c' with c''
   exact absurd c'' (by decide)) e
  have N:bG (TS h2) vs ds:=L2.Paired.imp (λv d t=>t.keep kt) hp;refine dX0 (s:={s with heap:=h2}) N (by rintro rfl;simp at Z) fun κ hκ=>hq κ ⟨λx y Q L hy q=>?_,λx y _ _ e=>HT.lexS_as e,λx y z _ _ _ e1 e2=>dX3 e1 e2⟩
  have t1:=(B _ L).keep kt;have t2:=(B _ hy).keep kt;rcases hκ with rfl|rfl|rfl
  ·exact cZ9 (s:={s with heap:=h2}) t1 t2 q
  ·exact cQ4 (s:={s with heap:=h2}) hu t1 t2 q
  ·exact eZh (s:={s with heap:=h2}) hu t1 t2 q
 ·have pl:xs.toList.Perm (gH vs).toList:=cO.mp L;obtain⟨idx,J,e1⟩:=cJl (f:=λi=>(vs.getD i cL,vs.getD i cL)) (m:=bQ vs.length) pl (by
   rw[ij]
   conv=>lhs;rw[<- cZe vs cL]
   rw[List.zip_map'])
  have D:∀i∈idx,i<vs.length:=λi hi=>cz.mp (J.mem_iff.mp hi);have eo:xs.map (·.2)=(idx.map λi=>vs.getD i cL).toArray:=by
   apply Array.toList_inj.mp;rw[Array.toList_map,e1,a7]
   rfl
  rw[eo];rw[e1,bO] at hs;have s2:=cF (((s.heap.update a (bD λ_=>(#[]:Array ad))).push (b7 "tuple" vs.toArray 0)).push (b7 "list" #[] 0)) a (bD λ_=>(idx.map λi=>vs.getD i cL).toArray);obtain⟨e2,O⟩:∃e1,(s.heap.update a (bD λ_=>(#[]:Array ad))).get? a=some (b7 "list" #[] e1):=⟨_,d8 ho λ_=>#[]⟩;have sb:=cF s.heap a (bD λ_=>(#[]:Array ad));refine h idx _ _ J ?_ ?_ (d8 (af _ (af _ O)) λ_=>_) λb o hb e=>(s2.2 b hb).trans (af _ (af _ ((sb.2 b hb).trans e)))
  ·rw[bO];refine hs.imp_of_mem λ{i j} hi hj Y=>?_;have a1:=cZd (at_ i (D i hi));have a2:=cZd (at_ j (D j hj));rw[<- a1,<- a2];exact Y
  ·have:=J.map λi=>ds.getD i []
   rw[hl,cZe] at this;exact this
end
end KS
namespace ST
open PySem PySem.SetTable PySem.Spec PyProof.Rows
end ST
namespace L2
open PySem PySem.Spec PyProof.Rows
def stO(p:Addr)(es:Array (Int×ad))(ep:Nat)(t:cB):HO:=.ext λh=>h.get? p=some (ST.setOb es ep t)
theorem Inv.drawn{X:Cx}{pins:List (Addr×Obj)}{σ:St}{H:Hp}{s:ah}(I:Inv X pins σ H s)(d:_):Inv X pins σ H {s with drawn:=d} :=
 ⟨I.ok,I.os,I.bare,I.base,I.loc,I.cell,I.free,I.freeC,I.pin,I.hok,I.len⟩
section
variable{X:Cx}
theorem cZf{H:Hp}:∀{xs:List V}{us:List ad}{ds:List Str},bG (dS H) xs ds->Vals xs us->je us ds
 |_,_,_,.nil,.nil=>.nil
 |_,_,_,.cons p q,.cons r t=>by
  cases p;obtain⟨k,rfl⟩:=r;exact .cons _ k (cZf q t)
theorem bQr{H:Hp}:∀{us:List ad}{ds:List Str},je us ds->Vals (ds.map V.str) us/\bG (dS H) (ds.map V.str) ds
 |_,_,.nil=>⟨.nil,.nil⟩
 |_,_,.cons y t r=>⟨.cons ⟨t,rfl⟩ (bQr (H:=H) r).1,.cons rfl (bQr r).2⟩
theorem dQu:∀{l:List Str},sortedS l=true->l.Nodup->l.Pairwise λa b=>HT.ltS a b=true
 |[],_,_=>.nil
 |[x],_,_=>bY _ _
 |x::y::l,h,nd=>by
  have h':(!ltCps y.cps.toList x.cps.toList&&risingS y l)=true:=h;rw[bL] at h';have D:=dQu (l:=y::l) h'.2 (cA.mp nd).2;have j:HT.ltS x y=true:=by
   have e:HT.ltS y x=false:=by
    have:=h'.1
    rw[dg] at this;rw[ltCps_eq] at this;exact this
   exact HT.ltS_tot e λz=>(cA.mp nd).1 (z▸au)
  refine a8.mpr ⟨λz B=>?_,D⟩;rcases aM.mp B with rfl|B
  ·exact j
  ·exact HT.ltS_tr j ((a8.mp D).1 z B)
end
end L2
set_option maxHeartbeats 4000000
namespace L2
open PySem PySem.Spec PyProof.Rows
def cutS(z:Str)(lo hi:Option Int):Str:=if ((bI lo hi 1 z.length).length==z.length)=true then z else ⟨((bI lo hi 1 z.length).filterMap (z.cps[·]?)).toArray⟩
def rSlS:V->Option Int->Option Int->Hp->VK->Prop:=λx lo hi H Q=>∃z,x=.str z/\z.length<=1000000/\Q (.str (cutS z lo hi)) H
theorem sl_str{X:Cx}:SlR X rSlS:=by
 intro pins s σ H x v Z Y lo hi sl Q I L hs pl pu h;obtain⟨z,rfl,hz,q⟩:=h;obtain⟨t,rfl⟩:=L;refine⟨"str",_,PySem.F.slot_str_getitem.lookup,typeIs_str _ _ _,?_⟩;have go:∀(l u:Option (Int×Tok)),l.map (·.1)=lo->u.map (·.1)=hi->s.heap.IsSlice sl l u none->aF (aB X.prog X.w) X.A (gA (.str z t) (.ref sl)) (EP X pins σ Q) X.xe s:=λl u hl N O=>by
  refine wpAny_getItem_str_slice O rfl ?_;unfold sliceMade slicePicked;simp only[Option.map_none,iJ,beq_self_eq_true,iG,hl,N];unfold cutS at q
  by_cases c:((bI lo hi 1 z.length).length==z.length)=true
  ·rw[if_pos c] at q ⊢;exact⟨.str z,H,I,⟨t,rfl⟩,q⟩
  ·rw[if_neg c] at q ⊢;refine⟨?_,.str _,H,I.tok _,⟨_,rfl⟩,q⟩;have h1:=PyProof.Rows.indices_len_le lo hi z.length;have h2:((bI lo hi 1 z.length).filterMap (z.cps[·]?)).length<=(bI lo hi 1 z.length).length:=List.length_filterMap_le _ _;show((bI lo hi 1 z.length).filterMap (z.cps[·]?)).toArray.size<=_;rw[av,bn];lia
 obtain⟨o,B,D,hd⟩:=hs;cases pl with
 |none =>
  cases pu with
  |none=>exact go none none rfl rfl ⟨o,B,D,hd⟩
  |int j J=>exact go none (some (j,J)) rfl rfl ⟨o,B,D,hd⟩
 |int i ti =>
  cases pu with
  |none=>exact go (some (i,ti)) none rfl rfl ⟨o,B,D,hd⟩
  |int j J=>exact go (some (i,ti)) (some (j,J)) rfl rfl ⟨o,B,D,hd⟩
end L2
set_option maxHeartbeats 1000000
namespace L2
open PySem PySem.Spec PyProof.Rows
inductive D where
 |non|bl (b:Bool)|int (i:Int)|str (x:Str)|ty (n:String)|ref (a:Addr)|tup (xs:List D)|lst (xs:List D)
abbrev Am:=Addr->Prop
structure Keep(M:Am)(H:Hp)(M':Am)(H':Hp):Prop where
 st:∀a o,¬ M a->H a=some o->H' a=some o
 nm:∀a,¬ M a->H a≠none->¬ M' a
def Xo:HO->Prop
 |.ext _=>True
 |.ins _ _ _=>True
 |_=>False
inductive DO where
 |lst (xs:List D)|dk (kvs:List (Key×D))|dt (kvs:List (List Key×D))
 |tb (pos:Pos) (qual:Str)
 |ex (f:Am->Hp->Addr->Prop) (hk:∀M M' H H' a,Keep M H M' H'->H' a=H a->f M H a->f M' H' a) (hl:∀M H a,f M H a->∃g,H a=some g/\Xo g)
abbrev Sto:=Addr->Option DO
abbrev Gm:=List (Option D)
def supd(S:Sto)(a:Addr)(o:DO):Sto:=λb=>if b=a then some o else S b
def sdel(S:Sto)(a:Addr):Sto:=λb=>if b=a then none else S b
theorem aQ7{S:Sto}{a:Addr}{o:DO}:supd S a o a=some o:=by unfold supd;rw[if_pos rfl]
theorem aQg{S:Sto}{a b:Addr}{o:DO}(h:b≠a):supd S a o b=S b:=by unfold supd;rw[if_neg h]
theorem aJs{S:Sto}{a:Addr}:sdel S a a=none:=by unfold sdel;rw[if_pos rfl]
theorem aJt{S:Sto}{a b:Addr}(h:b≠a):sdel S a b=S b:=by unfold sdel;rw[if_neg h]
def TupAt(K:Fg)(M:Am)(H:Hp)(a:Addr)(xs:List V):Prop:=(¬ M a/\Rd H a (.tup xs))\/SqT K (λ_=>none) a xs
theorem TupAt.sq{K:Fg}{M:Am}{H:Hp}{a:Addr}{xs:List V}(h:TupAt K M H a xs):SqT K H a xs:=by
 rcases h with h|(h|⟨o,h⟩)|h
 ·exact .inl h.2
 ·cases h
 ·cases h
 ·exact .inr h
def LstAt(K:Fg)(M:Am)(H:Hp)(a:Addr)(xs:List V):Prop:=(¬ M a/\Rd H a (.lst xs))\/SqL K (λ_=>none) a xs
theorem LstAt.sq{K:Fg}{M:Am}{H:Hp}{a:Addr}{xs:List V}(h:LstAt K M H a xs):SqL K H a xs:=by
 rcases h with h|(h|⟨o,h⟩)|h
 ·exact .inl h.2
 ·cases h
 ·cases h
 ·exact .inr h
mutual
def RepV(K:Fg)(M:Am)(H:Hp):D->V->Prop
 |.non,v=>v=.non
 |.bl b,v=>v=.bl b
 |.int i,v=>v=.int i
 |.str x,v=>v=.str x
 |.ty n,v=>v=.ty n
 |.ref a,v=>v=.ref a
 |.tup ds,v=>∃a xs,v=.ref a/\TupAt K M H a xs/\RepL K M H ds xs
 |.lst ds,v=>∃a xs,v=.ref a/\LstAt K M H a xs/\RepL K M H ds xs
def RepL(K:Fg)(M:Am)(H:Hp):List D->List V->Prop
 |[],xs=>xs=[]
 |d::ds,xs=>∃v vs,xs=v::vs/\RepV K M H d v/\RepL K M H ds vs
end
theorem Rd.live{H:Hp}{a:Addr}{u:HO}(r:Rd H a u):H a≠none:=by
 rcases r with r|⟨o,r⟩ <;> rw[r] <;> exact λz=>by cases z
theorem Keep.rd{M M':Am}{H H':Hp}(k:Keep M H M' H'){a:Addr}{u:HO}(hm:¬ M a)(r:Rd H a u):Rd H' a u:=by
 rcases r with r|⟨o,r⟩
 ·exact .inl (k.st a _ hm r)
 ·exact .inr ⟨o,k.st a _ hm r⟩
theorem TupAt.keep{K:Fg}{M M':Am}{H H':Hp}{p:Addr}{us:List V}(t:TupAt K M H p us)(x:Keep M H M' H'):TupAt K M' H' p us:=by
 rcases t with⟨hm,r⟩|t
 ·exact .inl ⟨x.nm p hm r.live,x.rd hm r⟩
 ·exact .inr t
theorem LstAt.keep{K:Fg}{M M':Am}{H H':Hp}{p:Addr}{us:List V}(t:LstAt K M H p us)(x:Keep M H M' H'):LstAt K M' H' p us:=by
 rcases t with⟨hm,r⟩|t
 ·exact .inl ⟨x.nm p hm r.live,x.rd hm r⟩
 ·exact .inr t
mutual
theorem RepV.keep{K:Fg}{M M':Am}{H H':Hp}(k:Keep M H M' H'):∀{d:D}{v:V},RepV K M H d v->RepV K M' H' d v
 |.non,_,h=>h
 |.bl _,_,h=>h
 |.int _,_,h=>h
 |.str _,_,h=>h
 |.ty _,_,h=>h
 |.ref _,_,h=>h
 |.tup ds,v,h=>by
  unfold RepV at h ⊢;obtain⟨a,xs,e,t,l⟩:=h;exact⟨a,xs,e,t.keep k,RepL.keep k l⟩
 |.lst ds,v,h=>by
  unfold RepV at h ⊢;obtain⟨a,xs,e,t,l⟩:=h;exact⟨a,xs,e,t.keep k,RepL.keep k l⟩
theorem RepL.keep{K:Fg}{M M':Am}{H H':Hp}(k:Keep M H M' H'):∀{ds:List D}{xs:List V},RepL K M H ds xs->RepL K M' H' ds xs
 |[],_,h=>h
 |d::ds,xs,h=>by
  unfold RepL at h ⊢;obtain⟨v,vs,e,r,l⟩:=h;exact⟨v,vs,e,RepV.keep k r,RepL.keep k l⟩
end
section
variable{K:Fg}{M:Am}{H:Hp}
theorem RepL.length:∀{ds:List D}{xs:List V},RepL K M H ds xs->xs.length=ds.length
 |[],_,h=>by unfold RepL at h;rw[h];rfl
 |d::ds,xs,h=>by
  unfold RepL at h;obtain⟨v,vs,rfl,_,l⟩:=h;simp[RepL.length l]
theorem RepL.nil:RepL K M H [] []:=by unfold RepL;rfl
theorem RepL.cons{d:D}{ds:List D}{v:V}{vs:List V}(r:RepV K M H d v)(l:RepL K M H ds vs):RepL K M H (d::ds) (v::vs):=by unfold RepL;exact⟨v,vs,rfl,r,l⟩
theorem RepL.app:∀{ds es:List D}{xs ys:List V},RepL K M H ds xs->RepL K M H es ys->RepL K M H (ds++es) (xs++ys)
 |[],es,xs,ys,h,h'=>by unfold RepL at h;rw[h];exact h'
 |d::ds,es,xs,ys,h,h'=>by
  unfold RepL at h;obtain⟨v,vs,rfl,r,l⟩:=h;exact RepL.cons r (RepL.app l h')
theorem RepL.get:∀{ds:List D}{xs:List V}{i:Nat}{d:D},RepL K M H ds xs->ds[i]?=some d->∃v,xs[i]?=some v/\RepV K M H d v
 |[],_,_,_,_,e=>by simp at e
 |d::ds,xs,0,e,h,he=>by
  unfold RepL at h;obtain⟨v,vs,rfl,r,l⟩:=h;simp at he;subst he;exact⟨v,rfl,r⟩
 |d::ds,xs,i+1,e,h,he=>by
  unfold RepL at h;obtain⟨v,vs,rfl,r,l⟩:=h;obtain⟨w,h1,h2⟩:=RepL.get (i:=i) l (by simpa using he)
  exact⟨w,by simpa using h1,h2⟩
theorem RepL.get'{ds:List D}{xs:List V}{i:Nat}{v:V}(h:RepL K M H ds xs)(e:xs[i]?=some v):∃d,ds[i]?=some d/\RepV K M H d v:=by
 have hl:=h.length;have hi:i<xs.length:=by
  rcases Nat.lt_or_ge i xs.length with z|z
  ·exact z
  ·rw[bV z] at e;cases e
 have j:ds[i]?=some ds[i]:=ag (by omega)
 obtain⟨w,h1,h2⟩:=h.get j;rw[e] at h1;cases h1;exact⟨_,j,h2⟩
theorem RepL.take:∀{ds:List D}{xs:List V}(n:Nat),RepL K M H ds xs->RepL K M H (ds.take n) (xs.take n)
 |_,_,0,_=>by simpa using RepL.nil
 |[],_,n+1,h=>by unfold RepL at h;subst h;simpa using RepL.nil
 |d::ds,xs,n+1,h=>by
  unfold RepL at h;obtain⟨v,vs,rfl,r,l⟩:=h;simpa using RepL.cons r (RepL.take n l)
theorem RepL.drop:∀{ds:List D}{xs:List V}(n:Nat),RepL K M H ds xs->RepL K M H (ds.drop n) (xs.drop n)
 |_,_,0,h=>by simpa using h
 |[],_,n+1,h=>by unfold RepL at h;subst h;simpa using RepL.nil
 |d::ds,xs,n+1,h=>by
  unfold RepL at h;obtain⟨v,vs,rfl,r,l⟩:=h;simpa using RepL.drop n l
theorem RepL.set{d:D}{v:V}(r:RepV K M H d v):∀{ds:List D}{xs:List V}(i:Nat),RepL K M H ds xs->RepL K M H (ds.set i d) (xs.set i v)
 |[],_,i,h=>by unfold RepL at h;subst h;simpa using RepL.nil
 |e::ds,xs,0,h=>by
  unfold RepL at h;obtain⟨w,vs,rfl,_,l⟩:=h;simpa using RepL.cons r l
 |e::ds,xs,i+1,h=>by
  unfold RepL at h;obtain⟨w,vs,rfl,q,l⟩:=h;simpa using RepL.cons q (RepL.set r i l)
theorem RepL.erase:∀{ds:List D}{xs:List V}(i:Nat),RepL K M H ds xs->RepL K M H (ds.eraseIdx i) (xs.eraseIdx i)
 |[],_,i,h=>by unfold RepL at h;subst h;simpa using RepL.nil
 |e::ds,xs,0,h=>by
  unfold RepL at h;obtain⟨w,vs,rfl,_,l⟩:=h;simpa using l
 |e::ds,xs,i+1,h=>by
  unfold RepL at h;obtain⟨w,vs,rfl,q,l⟩:=h;simpa using RepL.cons q (RepL.erase i l)
theorem RepL.one{d:D}{xs:List V}(h:RepL K M H [d] xs):∃v,xs=[v]/\RepV K M H d v:=by
 unfold RepL at h;obtain⟨v,vs,rfl,r,l⟩:=h;unfold RepL at l;subst l;exact⟨v,rfl,r⟩
theorem RepL.two{d e:D}{xs:List V}(h:RepL K M H [d,e] xs):∃v w,xs=[v,w]/\RepV K M H d v/\RepV K M H e w:=by
 unfold RepL at h;obtain⟨v,vs,rfl,r,l⟩:=h;obtain⟨w,rfl,j⟩:=l.one;exact⟨v,w,rfl,r,j⟩
end
def mt(S:Sto)(F:Am):Am:=λa=>S a≠none\/F a
abbrev cdO(c:Addr)(oc:Obj):HO:=.ext λh=>h.get? c=some oc
def TbOk(M:Am)(H:Hp)(pos:Pos)(qual:Str)(ps:Array ad):Prop:=TriplesOk ps.toList/\(gY pos ps.toList=none \/
 ∃c oc,gY pos ps.toList=some (.ref c)/\¬ M c/\H c=some (cdO c oc)/\∃vs t,oc.data=.fields vs/\vs[1]?=some (.str qual t))
theorem TbOk.keep{M M':Am}{H H':Hp}(k:Keep M H M' H'){pos:Pos}{qual:Str}{ps:Array ad}(h:TbOk M H pos qual ps):TbOk M' H' pos qual ps:=by
 obtain⟨h1,h2⟩:=h;refine⟨h1,h2.imp id λ⟨c,oc,e1,m,e2,r⟩=>⟨c,oc,e1,k.nm c m (by rw[e2];exact λz=>by cases z),k.st c _ m e2,r⟩⟩
def RepO(K:Fg)(M:Am)(H:Hp)(a:Addr):DO->Prop
 |.lst ds=>∃xs,H a=some (.lst xs)/\RepL K M H ds xs
 |.dk kvs=>∃ks,H a=some (.dK ks)/\bG (λ(p:Key×V) (q:Key×D)=>p.1=q.1/\RepV K M H q.2 p.2) ks kvs
 |.dt kvs=>∃ks,H a=some (.dT ks)/\bG (λ(p:List Key×V) (q:List Key×D)=>p.1=q.1/\RepV K M H q.2 p.2) ks kvs
 |.tb pos qual=>∃ps,H a=some (.tbl ps)/\TbOk M H pos qual ps
 |.ex f _ _=>f M H a
theorem RepO.live{K:Fg}{M:Am}{H:Hp}{a:Addr}{o:DO}(h:RepO K M H a o):H a≠none:=by
 cases o with
 |ex f j hl=>obtain⟨g,e,_⟩:=hl _ _ _ h;rw[e];exact λz=>by cases z
 |_=>obtain⟨xs,e,_⟩:=h;rw[e];exact λz=>by cases z
theorem RepO.keep{K:Fg}{M M':Am}{H H':Hp}(k:Keep M H M' H'){a:Addr}{o:DO}(e:H' a=H a)(h:RepO K M H a o):RepO K M' H' a o:=by
 cases o with
 |lst ds=>obtain⟨xs,e1,l⟩:=h;exact⟨xs,e.trans e1,l.keep k⟩
 |dk j=>obtain⟨xs,e1,l⟩:=h;exact⟨xs,e.trans e1,Paired.imp (λ_ _ z=>⟨z.1,z.2.keep k⟩) l⟩
 |dt j=>obtain⟨xs,e1,l⟩:=h;exact⟨xs,e.trans e1,Paired.imp (λ_ _ z=>⟨z.1,z.2.keep k⟩) l⟩
 |tb pos qual=>obtain⟨xs,e1,l⟩:=h;exact⟨xs,e.trans e1,l.keep k⟩
 |ex f B hl=>exact B _ _ _ _ _ k e h
def Clt:HO->Prop
 |.lst _=>True
 |.ext _=>True
 |_=>False
structure Rp(K:Fg)(F:Am)(S:Sto)(H:Hp):Prop where
 obj:∀a o,S a=some o->RepO K (mt S F) H a o
 frm:∀a,F a->(∃u,H a=some u/\Clt u)/\S a=none
structure Ext(S:Sto)(H:Hp)(S':Sto)(H':Hp):Prop where
 keep:∀a o,S a=none->H a=some o->H' a=some o
 live:∀a,H a≠none->H' a≠none
 new:∀a,S' a≠none->S a≠none\/H a=none
theorem Ext.refl(S:Sto)(H:Hp):Ext S H S H:=⟨λ_ _ _ h=>h,λ_ h=>h,λ_ h=>.inl h⟩
theorem Ext.sn{S S':Sto}{H H':Hp}(x:Ext S H S' H'){a:Addr}(h:S a=none)(h':H a≠none):S' a=none:=by
 cases e:S' a with
 |none=>rfl
 |some o =>
  rcases x.new a (by rw[e];exact λz=>by cases z) with z|z
  ·exact absurd h z
  ·exact absurd z h'
theorem Ext.trans{S S1 S2:Sto}{H H1 H2:Hp}(x:Ext S H S1 H1)(y:Ext S1 H1 S2 H2):Ext S H S2 H2 :=
 ⟨λa o h h'=>y.keep a o (x.sn h (by rw[h'];exact λz=>by cases z)) (x.keep a o h h'),λa h=>y.live a (x.live a h),λa h=>by
  rcases y.new a h with z|z
  ·exact x.new a z
  ·refine .inr (ba λn=>x.live a n z)⟩
theorem Ext.same{S:Sto}{H H':Hp}(s:Same H H'):Ext S H S H' where
 keep:=λa o _ h=>s a o h
 live:=λa h=>by
  cases e:H a with
  |none=>exact absurd e h
  |some o =>
   rw[s a o e];exact λz=>by cases z
 new:=λ_ h=>.inl h
theorem Ext.kp{F:Am}{S S':Sto}{H H':Hp}(x:Ext S H S' H'):Keep (mt S F) H (mt S' F) H':=⟨λa o h e=>x.keep a o (ba λn=>h (.inl n)) e,λa h e=>λz=>by
 rcases z with z|z
 ·rcases x.new a z with y|y
  ·exact h (.inl y)
  ·exact e y
 ·exact h (.inr z)⟩
section
variable{K:Fg}{F:Am}{S S':Sto}{H H':Hp}
theorem RepV.ext{d:D}{v:V}(h:RepV K (mt S F) H d v)(x:Ext S H S' H'):RepV K (mt S' F) H' d v:=h.keep x.kp
theorem RepL.ext{ds:List D}{vs:List V}(h:RepL K (mt S F) H ds vs)(x:Ext S H S' H'):RepL K (mt S' F) H' ds vs:=h.keep x.kp
theorem Rp.same(r:Rp K F S H)(s:Same H H'):Rp K F S H' where
 obj:=λa o h=>by
  have q:=r.obj a o h;have e:H' a=H a:=by
   cases z:H a with
   |none=>exact absurd z q.live
   |some u=>exact s a u z
  exact q.keep (Ext.same s).kp e
 frm:=λa h=>by
  obtain⟨⟨zs,e,ct⟩,h2⟩:=r.frm a h;exact⟨⟨zs,s a _ e,ct⟩,h2⟩
theorem Ext.write{a:Addr}{o:DO}{u:HO}(h:S a≠none):Ext S H (supd S a o) (upd H a u) where
 keep:=λb B h1 h2=>by
  have ne:b≠a:=by rintro rfl;exact h h1
  rw[upd_ne ne];exact h2
 live:=λb j=>by
  by_cases e:b=a
  ·subst e;rw[aQ9];exact λz=>by cases z
  ·rw[upd_ne e];exact j
 new:=λb j=>by
  by_cases e:b=a
  ·subst e;exact .inl h
  ·rw[aQg e] at j;exact .inl j
theorem Rp.write{a:Addr}{o:DO}{u:HO}(r:Rp K F S H)(h:S a≠none)(q:RepO K (mt (supd S a o) F) (upd H a u) a o):Rp K F (supd S a o) (upd H a u) where
 obj:=λb j hb=>by
  by_cases e:b=a
  ·subst e;rw[aQ7] at hb;cases hb;exact q
  ·rw[aQg e] at hb;exact(r.obj b j hb).keep (Ext.write h).kp (upd_ne e)
 frm:=λb hb=>by
  have e:b≠a:=by rintro rfl;exact h (r.frm b hb).2
  rw[upd_ne e,aQg e];exact r.frm b hb
theorem Rp.sn(r:Rp K F S H){a:Addr}(h:H a=none):S a=none:=by
 cases e:S a with
 |none=>rfl
 |some o=>exact absurd h (r.obj a o e).live
theorem Ext.mk'{a:Addr}{o:DO}{u:HO}(h:H a=none):Ext S H (supd S a o) (upd H a u) where
 keep:=λb B h1 h2=>by
  have ne:b≠a:=by rintro rfl;rw[h] at h2;cases h2
  rw[upd_ne ne];exact h2
 live:=λb j=>by
  have ne:b≠a:=by rintro rfl;exact j h
  rw[upd_ne ne];exact j
 new:=λb j=>by
  by_cases e:b=a
  ·subst e;exact .inr h
  ·rw[aQg e] at j;exact .inl j
theorem Rp.mk'{a:Addr}{o:DO}{u:HO}(r:Rp K F S H)(h:H a=none)(q:RepO K (mt (supd S a o) F) (upd H a u) a o):Rp K F (supd S a o) (upd H a u) where
 obj:=λb j hb=>by
  by_cases e:b=a
  ·subst e;rw[aQ7] at hb;cases hb;exact q
  ·rw[aQg e] at hb;exact(r.obj b j hb).keep (Ext.mk' h).kp (upd_ne e)
 frm:=λb hb=>by
  have e:b≠a:=by
   rintro rfl;obtain⟨⟨zs,e,_⟩,_⟩:=r.frm b hb;rw[h] at e;cases e
  rw[upd_ne e,aQg e];exact r.frm b hb
theorem Ext.less{S':Sto}(h:∀ a o,S' a=some o->S a=some o):Ext S H S' H:=⟨λ_ _ _ e=>e,λ_ e=>e,λa e=>.inl λz=>by
 cases q:S' a with
 |none=>exact e q
 |some o=>rw[h a o q] at z;cases z⟩
theorem Rp.less{S':Sto}(r:Rp K F S H)(h:∀a o,S' a=some o->S a=some o):Rp K F S' H where
 obj:=λa o e=>(r.obj a o (h a o e)).keep (Ext.less h).kp rfl
 frm:=λa e=>⟨(r.frm a e).1,by
  cases q:S' a with
  |none=>rfl
  |some o=>have:=h a o q;rw[(r.frm a e).2] at this;cases this⟩
theorem cZg{a:Addr}:∀b o,sdel S a b=some o->S b=some o:=λb o e=>by
 by_cases z:b=a
 ·subst z;rw[aJs] at e;cases e
 ·rwa [aJt z] at e
end
def look(g:Gm)(i:Nat)(k:D->Prop):Prop:=match i with
 |0=>match g with
  |some d::_=>k d
  |_=>False
 |n+1=>match g with
  |_::g=>look g n k
  |[]=>False
def RepG(K:Fg)(M:Am)(H:Hp):Gm->St->Prop
 |[],σ=>σ=[]
 |none::g,σ=>∃v τ,σ=v::τ/\RepG K M H g τ
 |some d::g,σ=>∃v τ,σ=some v::τ/\RepV K M H d v/\RepG K M H g τ
theorem RepG.keep{K:Fg}{M M':Am}{H H':Hp}(k:Keep M H M' H'):∀{g:Gm}{σ:St},RepG K M H g σ->RepG K M' H' g σ
 |[],_,h=>h
 |none::g,_,⟨v,τ,e,r⟩=>⟨v,τ,e,RepG.keep k r⟩
 |some d::g,_,⟨v,τ,e,q,r⟩=>⟨v,τ,e,q.keep k,RepG.keep k r⟩
theorem RepG.ext{K:Fg}{F:Am}{S S':Sto}{H H':Hp}{g:Gm}{σ:St}(h:RepG K (mt S F) H g σ)(x:Ext S H S' H'):RepG K (mt S' F) H' g σ:=h.keep x.kp
theorem RepG.look{K:Fg}{M:Am}{H:Hp}{k:D->Prop}:∀{g:Gm}{σ:St}{i:Nat},RepG K M H g σ->look g i k->∃v d,σ[i]?=some (some v)/\RepV K M H d v/\k d
 |[],_,0,_,h=>db h
 |[],_,_+1,_,h=>db h
 |none::_,_,0,_,h=>db h
 |some d::g,_,0,⟨v,τ,e,q,r⟩,h=>⟨v,d,by rw[e];rfl,q,h⟩
 |some d::g,_,i+1,⟨v,τ,e,q,r⟩,h=>by
  obtain⟨u,j,e1,h1⟩:=RepG.look (i:=i) r h;exact⟨u,j,by rw[e];simpa using e1,h1⟩
 |none::g,_,i+1,⟨v,τ,e,r⟩,h=>by
  obtain⟨u,j,e1,h1⟩:=RepG.look (i:=i) r h;exact⟨u,j,by rw[e];simpa using e1,h1⟩
theorem RepG.set{K:Fg}{M:Am}{H:Hp}{d:D}{v:V}(q:RepV K M H d v):∀{g:Gm}{σ:St}(i:Nat),RepG K M H g σ->RepG K M H (g.set i (some d)) (σ.set i (some v))
 |[],_,_,h=>by cases h;rfl
 |none::g,_,0,⟨w,τ,e,r⟩=>by subst e;exact⟨v,τ,rfl,q,r⟩
 |some _::g,_,0,⟨w,τ,e,_,r⟩=>by subst e;exact⟨v,τ,rfl,q,r⟩
 |none::g,_,i+1,⟨w,τ,e,r⟩=>by subst e;exact⟨w,_,rfl,RepG.set q i r⟩
 |some _::g,_,i+1,⟨w,τ,e,z,r⟩=>by subst e;exact⟨w,_,rfl,z,RepG.set q i r⟩
abbrev DK:=D->Sto->Prop
abbrev ED:=Gm->Sto->DK->Prop
abbrev TD:=Gm->Sto->(Bool->Sto->Prop)->Prop
abbrev AD:=Gm->Sto->(List D->Sto->Prop)->Prop
structure EndsD where
 nx:Gm->Sto->Prop
 rt:DK
 bk:Gm->Sto->Prop:=λ_ _=>False
 ct:Gm->Sto->Prop:=λ_ _=>False
abbrev SD:=EndsD->Gm->Sto->Prop
def upE(K:Fg)(t:ED):TE:=fun σ H Q=>∃F S Γ QD,Rp K F S H/\RepG K (mt S F) H Γ σ/\t Γ S QD/\∀v d H' S',Ext S H S' H'->Rp K F S' H'->RepV K (mt S' F) H' d v->QD d S'->Q v H'
theorem upE.el{K:Fg}{t:ED}{σ:St}{H:Hp}{Q:VK}{p:Prop}(h:upE K t σ H Q)(k:∀F S Γ QD,Rp K F S H->RepG K (mt S F) H Γ σ->t Γ S QD->(∀v d H' S',Ext S H S' H'->Rp K F S' H'->RepV K (mt S' F) H' d v->QD d S'->Q v H')->p):p:=by
 obtain⟨F,S,Γ,QD,h0,h1,h2,j⟩:=h;exact k F S Γ QD h0 h1 h2 j
def upT(K:Fg)(t:TD):TT:=fun σ H Q=>∃F S Γ QD,Rp K F S H/\RepG K (mt S F) H Γ σ/\t Γ S QD/\∀b H' S',Ext S H S' H'->Rp K F S' H'->QD b S'->Q b H'
theorem upT.el{K:Fg}{t:TD}{σ:St}{H:Hp}{Q:Bool->Hp->Prop}{p:Prop}(h:upT K t σ H Q)(k:∀F S Γ QD,Rp K F S H->RepG K (mt S F) H Γ σ->t Γ S QD->(∀b H' S',Ext S H S' H'->Rp K F S' H'->QD b S'->Q b H')->p):p:=by
 obtain⟨F,S,Γ,QD,h0,h1,h2,j⟩:=h;exact k F S Γ QD h0 h1 h2 j
def upA(K:Fg)(t:AD):TA:=fun σ H Q=>∃F S Γ QD,Rp K F S H/\RepG K (mt S F) H Γ σ/\t Γ S QD/\∀vs ds H' S',Ext S H S' H'->Rp K F S' H'->RepL K (mt S' F) H' ds vs->QD ds S'->Q vs H'
theorem upA.el{K:Fg}{t:AD}{σ:St}{H:Hp}{Q:List V->Hp->Prop}{p:Prop}(h:upA K t σ H Q)(k:∀F S Γ QD,Rp K F S H->RepG K (mt S F) H Γ σ->t Γ S QD->(∀vs ds H' S',Ext S H S' H'->Rp K F S' H'->RepL K (mt S' F) H' ds vs->QD ds S'->Q vs H')->p):p:=by
 obtain⟨F,S,Γ,QD,h0,h1,h2,j⟩:=h;exact k F S Γ QD h0 h1 h2 j
structure CnS(K:Fg)(F:Am)(S:Sto)(H:Hp)(E:EndsD)(D':Ends):Prop where
 nx:∀Γ' S' σ' H',Ext S H S' H'->Rp K F S' H'->RepG K (mt S' F) H' Γ' σ'->E.nx Γ' S'->D'.nx σ' H'
 rt:∀v d H' S',Ext S H S' H'->Rp K F S' H'->RepV K (mt S' F) H' d v->E.rt d S'->D'.rt v H'
 bk:∀Γ' S' σ' H',Ext S H S' H'->Rp K F S' H'->RepG K (mt S' F) H' Γ' σ'->E.bk Γ' S'->D'.bk σ' H'
 ct:∀Γ' S' σ' H',Ext S H S' H'->Rp K F S' H'->RepG K (mt S' F) H' Γ' σ'->E.ct Γ' S'->D'.ct σ' H'
theorem CnS.ext{K:Fg}{F:Am}{S S1:Sto}{H H1:Hp}{E:EndsD}{D':Ends}(c:CnS K F S H E D')(x:Ext S H S1 H1):CnS K F S1 H1 E D' :=
 ⟨fun Γ' S' σ' H' y=>c.nx Γ' S' σ' H' (x.trans y),λv d H' S' y=>c.rt v d H' S' (x.trans y),fun Γ' S' σ' H' y=>c.bk Γ' S' σ' H' (x.trans y),fun Γ' S' σ' H' y=>c.ct Γ' S' σ' H' (x.trans y)⟩
def upS(K:Fg)(t:SD):TS:=λD' σ H=>∃F S Γ E,Rp K F S H/\RepG K (mt S F) H Γ σ/\t E Γ S/\CnS K F S H E D'
theorem upS.el{K:Fg}{t:SD}{D':Ends}{σ:St}{H:Hp}{p:Prop}(h:upS K t D' σ H)(k:∀F S Γ E,Rp K F S H->RepG K (mt S F) H Γ σ->t E Γ S->CnS K F S H E D'->p):p:=by
 obtain⟨F,S,Γ,E,h0,h1,h2,j⟩:=h;exact k F S Γ E h0 h1 h2 j
structure PD(K:Fg)(X:Cx)(e:Expr)(t:ED):Prop where
 o:PE X e (upE K t)
structure PTD(K:Fg)(X:Cx)(e:Expr)(t:TD):Prop where
 o:PT X e (upT K t)
structure PAD(K:Fg)(X:Cx)(es:List Expr)(t:AD):Prop where
 o:PA X es (upA K t)
structure PSD(K:Fg)(X:Cx)(st:Stmt)(t:SD):Prop where
 o:PS X st (upS K t)
structure PSsD(K:Fg)(X:Cx)(st:List Stmt)(t:SD):Prop where
 o:PSs X st (upS K t)
section
variable{X:Cx}{K:Fg}
theorem PD.of{e:Expr}{te:TE}{t:ED}(h:PE X e te)(i:∀σ H Q,upE K t σ H Q->te σ H Q):PD K X e t:=⟨λpins s σ H Q I q=>h pins s σ H Q I (i σ H Q q)⟩
theorem PTD.of{e:Expr}{te:TT}{t:TD}(h:PT X e te)(i:∀σ H Q,upT K t σ H Q->te σ H Q):PTD K X e t:=⟨λpins s σ H Q I q=>h pins s σ H Q I (i σ H Q q)⟩
theorem PAD.of{e:List Expr}{te:TA}{t:AD}(h:PA X e te)(i:∀σ H Q,upA K t σ H Q->te σ H Q):PAD K X e t:=⟨λpos pins s σ H Q I q=>h pos pins s σ H Q I (i σ H Q q)⟩
theorem PSD.of{e:Stmt}{te:TS}{t:SD}(h:PS X e te)(i:∀D' σ H,upS K t D' σ H->te D' σ H):PSD K X e t:=⟨λpins s σ H D' I q=>h pins s σ H D' I (i D' σ H q)⟩
theorem PSsD.of{e:List Stmt}{te:TS}{t:SD}(h:PSs X e te)(i:∀D' σ H,upS K t D' σ H->te D' σ H):PSsD K X e t:=⟨λpins s σ H D' I q=>h pins s σ H D' I (i D' σ H q)⟩
def dVar(i:Nat):ED:=fun Γ S Q=>look Γ i λd=>Q d S
def dC(d:D):ED:=λ_ S Q=>Q d S
theorem dv(i:Nat){x:Str}{pos:Pos}(hN:X.N[i]?=some x:=by rfl)(hv:Vis X.env.scope x:=by first|exact a4 rfl|exact gy (a4 rfl)|exact gy (gy rfl))(hd:(x==("__debug__":Str))=false:=by decide)
  (hcd:(x==("__classdict__":Str))=false:=by decide):PD K X (.Name x pos) (dVar i):=.of (eQa hN hv hd hcd) fun σ H Q j=>j.el λF S Γ QD r g h c=>by
 obtain⟨v,d,e,q,z⟩:=g.look h;exact⟨v,e,c v d H S (Ext.refl _ _) r q z⟩
theorem up_c{d:D}{v:V}(h:∀M H,RepV K M H d v):∀σ H Q,upE K (dC d) σ H Q->tC v σ H Q:=fun σ H Q j=>j.el λF S Γ QD r g q c=>c v d H S (Ext.refl _ _) r (h _ _) q
theorem aQ6{i j pos}:PD K X (.Constant (.int i) j pos) (dC (.int i)):=.of eQb (up_c λ_ _=>by unfold RepV;rfl)
theorem e_bl{b j pos}:PD K X (.Constant (.bool b) j pos) (dC (.bl b)):=.of eJq (up_c λ_ _=>by unfold RepV;rfl)
theorem bQ5{j pos}:PD K X (.Constant .none j pos) (dC .non):=.of eQc (up_c λ_ _=>by unfold RepV;rfl)
theorem aXg{x j pos}:PD K X (.Constant (.str x) j pos) (dC (.str x)):=.of eQd (up_c λ_ _=>by unfold RepV;rfl)
def Cn(K:Fg)(F:Am)(S:Sto)(H:Hp)(QD:DK)(Q:VK):Prop:=∀v d H' S',Ext S H S' H'->Rp K F S' H'->RepV K (mt S' F) H' d v->QD d S'->Q v H'
abbrev R2D:=D->D->Sto->DK->Prop
def OpD(K:Fg)(r:R2)(rd:R2D):Prop:=∀F S H d e x y Q QD,Rp K F S H->RepV K (mt S F) H d x->RepV K (mt S F) H e y->rd d e S QD->Cn K F S H QD Q->r x y H Q
def dOp(rd:R2D)(ta tb:ED):ED:=fun Γ S Q=>ta Γ S λx S1=>tb Γ S1 λy S2=>rd x y S2 Q
theorem cJm{r:R2}{rd:R2D}{ta tb:ED}(h:OpD K r rd):∀σ H Q,upE K (dOp rd ta tb) σ H Q->tOp r (upE K ta) (upE K tb) σ H Q:=fun σ H Q D=>D.el λF S Γ QD r g q c =>
 ⟨F,S,Γ,_,r,g,q,λx d H1 S1 B N v1 Y=>⟨F,S1,Γ,_,N,g.ext B,Y,λy e H2 S2 j L v2 O=>h F S2 H2 d e x y Q QD L (v1.ext j) v2 O λv z H3 Z J=>c v z H3 Z (B.trans (j.trans J))⟩⟩
theorem e_op{op:Operator}{r:R2}{rd:R2D}{a b:Expr}{ta tb:ED}{pos:Pos}(ho:OpR X (ef op) r)(h:OpD K r rd)(ha:PD K X a ta)(hb:PD K X b tb):PD K X (.BinOp a op b pos) (dOp rd ta tb):=.of (eJx ho ha.o hb.o) (cJm h)
theorem eZr{op:CmpOp}{r:R2}{rd:R2D}{a b:Expr}{ta tb:ED}{pos:Pos}(ho:OpR X (cC op) r)(h:OpD K r rd)(ha:PD K X a ta)(hb:PD K X b tb)(hm:dX op b=false):PD K X (.Compare a [op] [b] pos) (dOp rd ta tb):=.of (dZg ho ha.o hb.o hm) (cJm h)
def aXh(t:ED):TD:=fun Γ S Q=>t Γ S λd S1=>∃b,d=.bl b/\Q b S1
theorem eZs{r:R2}{rd:R2D}{ta tb:ED}(h:OpD K r rd):∀ σ H Q,upT K (aXh (dOp rd ta tb)) σ H Q->eQu (tOp r (upE K ta) (upE K tb)) σ H Q:=fun σ H Q q=>cJm (rd:=rd) h σ H _ (by
 obtain⟨F,S,Γ,QD,r,g,q,c⟩:=q;refine⟨F,S,Γ,_,r,g,q,λv d H1 J j B v1 ⟨b,e,D⟩=>?_⟩;subst e;unfold RepV at v1;exact⟨b,v1,c b H1 J j B D⟩)
theorem aXa{op:CmpOp}{r:R2}{rd:R2D}{a b:Expr}{ta tb:ED}{pos:Pos}(ho:OpR X (cC op) r)(h:OpD K r rd)(ha:PD K X a ta)(hb:PD K X b tb)(hm:dX op b=false):PTD K X (.Compare a [op] [b] pos) (aXh (dOp rd ta tb)):=.of (dZh ho ha.o hb.o hm) (eZs h)
end
end L2
set_option maxHeartbeats 4000000
namespace L2
open PySem PySem.Spec PyProof.Rows
section
variable{K:Fg}{F:Am}{S:Sto}{H:Hp}{QD:DK}{Q:VK}
theorem Cn.here(c:Cn K F S H QD Q)(r:Rp K F S H){d:D}{v:V}(h:RepV K (mt S F) H d v)(q:QD d S):Q v H:=c v d H S (Ext.refl _ _) r h q
theorem Cn.int(c:Cn K F S H QD Q)(r:Rp K F S H){i:Int}(q:QD (.int i) S):Q (.int i) H:=c.here r (by unfold RepV;rfl) q
theorem Cn.str(c:Cn K F S H QD Q)(r:Rp K F S H){i:Str}(q:QD (.str i) S):Q (.str i) H:=c.here r (by unfold RepV;rfl) q
theorem Cn.bl(c:Cn K F S H QD Q)(r:Rp K F S H){i:Bool}(q:QD (.bl i) S):Q (.bl i) H:=c.here r (by unfold RepV;rfl) q
theorem Rp.nmt(r:Rp K F S H){a:Addr}(h:H a=none):¬ mt S F a:=λz=>by
 rcases z with z|z
 ·exact z (r.sn h)
 ·obtain⟨⟨zs,e,_⟩,_⟩:=r.frm a z;rw[h] at e;cases e
theorem Cn.tup(c:Cn K F S H QD Q)(r:Rp K F S H){l:Addr}(h:H l=none){ds:List D}{xs:List V}(rl:RepL K (mt S F) H ds xs)(q:QD (.tup ds) S):Q (.ref l) (upd H l (.tup xs)):=by
 have x:Ext S H S (upd H l (.tup xs)):=Ext.same (aX5 h);refine c _ _ _ S x (r.same (aX5 h)) ?_ q;unfold RepV;exact⟨l,xs,rfl,.inl ⟨r.nmt h,.inl aQ9⟩,rl.ext x⟩
theorem Cn.lst(c:Cn K F S H QD Q)(r:Rp K F S H){l:Addr}(h:H l=none){ds:List D}{xs:List V}(rl:RepL K (mt S F) H ds xs)(q:QD (.lst ds) S):Q (.ref l) (upd H l (.lst xs)):=by
 have x:Ext S H S (upd H l (.lst xs)):=Ext.same (aX5 h);refine c _ _ _ S x (r.same (aX5 h)) ?_ q;unfold RepV;exact⟨l,xs,rfl,.inl ⟨r.nmt h,.inl aQ9⟩,rl.ext x⟩
theorem Cn.lstR(c:Cn K F S H QD Q)(r:Rp K F S H){l:Addr}(h:H l=none){ds:List D}{xs:List V}(rl:RepL K (mt S F) H ds xs)(q:QD (.ref l) (supd S l (.lst ds))):Q (.ref l) (upd H l (.lst xs)):=by
 have x:Ext S H (supd S l (.lst ds)) (upd H l (.lst xs)):=Ext.mk' h;exact c _ _ _ _ x (r.mk' h ⟨xs,aQ9,rl.ext x⟩) (by unfold RepV;rfl) q
def newL(b:Bool)(ds:List D)(S:Sto)(Q:DK):Prop:=match b with
 |false=>Q (.lst ds) S
 |true=>∀p,S p=none->Q (.ref p) (supd S p (.lst ds))
theorem Cn.new(c:Cn K F S H QD Q)(r:Rp K F S H){b:Bool}{l:Addr}(h:H l=none){ds:List D}{xs:List V}(rl:RepL K (mt S F) H ds xs)(q:newL b ds S QD):Q (.ref l) (upd H l (.lst xs)):=by
 cases b with
 |false=>exact c.lst r h rl q
 |true=>exact c.lstR r h rl (q l (r.sn h))
def lsIs(S:Sto):D->List D->Prop
 |.lst ys,xs=>ys=xs
 |.ref a,xs=>S a=some (.lst xs)
 |_,_=>False
def sqIs(S:Sto):D->List D->Prop
 |.tup ys,xs=>ys=xs
 |.lst ys,xs=>ys=xs
 |.ref a,xs=>S a=some (.lst xs)
 |_,_=>False
theorem lsIs.sl(r:Rp K F S H){d:D}{v:V}{ds:List D}(h:RepV K (mt S F) H d v)(l:lsIs S d ds):∃a xs,v=.ref a/\SqL K H a xs/\RepL K (mt S F) H ds xs:=by
 cases d with
 |lst ys =>
  cases l;unfold RepV at h;obtain⟨a,xs,e,q,z⟩:=h;exact⟨a,xs,e,q.sq,z⟩
 |ref a =>
  unfold RepV at h;obtain⟨xs,e,z⟩:=r.obj a _ l;exact⟨a,xs,h,SqL.of e,z⟩
 |_=>exact l.elim
theorem tup.st{ds:List D}{v:V}(h:RepV K (mt S F) H (.tup ds) v):∃a xs,v=.ref a/\SqT K H a xs/\RepL K (mt S F) H ds xs:=by
 unfold RepV at h;obtain⟨a,xs,e,t,z⟩:=h;exact⟨a,xs,e,t.sq,z⟩
theorem sqIs.sq(r:Rp K F S H){d:D}{v:V}{ds:List D}(h:RepV K (mt S F) H d v)(l:sqIs S d ds):∃a xs,v=.ref a/\(SqL K H a xs\/SqT K H a xs)/\RepL K (mt S F) H ds xs:=by
 cases d with
 |tup ys =>
  cases l;obtain⟨a,xs,e,t,z⟩:=tup.st h;exact⟨a,xs,e,.inr t,z⟩
 |lst ys =>
  obtain⟨a,xs,e,t,z⟩:=lsIs.sl r h (show lsIs S (.lst ys) ds from l)
  exact⟨a,xs,e,.inl t,z⟩
 |ref a =>
  obtain⟨a,xs,e,t,z⟩:=lsIs.sl r h (show lsIs S (.ref a) ds from l)
  exact⟨a,xs,e,.inl t,z⟩
 |_=>exact l.elim
theorem rint{i:Int}{v:V}(h:RepV K (mt S F) H (.int i) v):v=.int i:=by unfold RepV at h;exact h
theorem rstr{i:Str}{v:V}(h:RepV K (mt S F) H (.str i) v):v=.str i:=by unfold RepV at h;exact h
theorem rbl{i:Bool}{v:V}(h:RepV K (mt S F) H (.bl i) v):v=.bl i:=by unfold RepV at h;exact h
theorem rref{i:Addr}{v:V}(h:RepV K (mt S F) H (.ref i) v):v=.ref i:=by unfold RepV at h;exact h
theorem rnon{v:V}(h:RepV K (mt S F) H .non v):v=.non:=by unfold RepV at h;exact h
end
section
variable{X:Cx}{K:Fg}
def eZt(K:Fg):R2:=λx y H Q=>∃l b xs zs,x=.ref l/\y=.ref b/\SqL K H l xs/\SqL K H b zs/\xs.length+zs.length<=sizeLine/\∀p,H p=none->Q (.ref p) (upd H p (.lst (xs++zs)))
theorem dX4(hK:X.K=K:=by rfl):OpR X (ef .Add) (eZt K):=by
 subst hK;intro pins s σ H x y v u Q I rx ry h;obtain⟨l,b,xs,zs,rfl,rfl,hH,hB,hz,q⟩:=h;cases rx;cases ry;obtain⟨its,r,⟨⟨cls,dd,data,sl⟩,n,Y,Z,hd,J⟩,hz1⟩:=I.list hH;obtain⟨j,O,⟨⟨cls2,dd2,data2,N⟩,n2,D,L,hd2,B⟩,hz2⟩:=I.list hB;simp only at Z hd J L hd2 B;subst Z hd J L hd2 B;have h1:=r.length;have h2:=O.length;refine i9 ⟨_,Y,rfl⟩ ⟨_,D,rfl⟩ noFill_list_add seq_list_add PySem.F.slot_list_add PySem.F.entry_list_add (PySem.F.args_list_add_2 _ _)
  (list_addW l b its.toArray j.toArray n n2 none none sl N (by rw[av,av];lia)) ⟨Y,D,?_⟩
 have ea:its.toArray++j.toArray=(its++j).toArray:=by simp
 rw[ea];exact⟨.ref _,_,I.lnew (t':=s.toks) (r.append O) (by rw[aG];lia),rfl,q _ I.fresh⟩
def eZu(K:Fg):R2:=λx y H Q=>∃a b ys,x=.ref a/\y=.ref b/\SqT K H a []/\SqT K H b ys/\Q (.ref b) H
theorem dX5(hK:X.K=K:=by rfl):OpR X (ef .Add) (eZu K):=by
 subst hK;intro pins s σ H x y v u Q I rx ry h;obtain⟨a,b,ys,rfl,rfl,ha,hb,q⟩:=h;cases rx;cases ry;obtain⟨its,r1,Z,_⟩:=I.tuple ha;obtain⟨L,r2,p2,_⟩:=I.tuple hb;cases r1;obtain⟨⟨cls,dd,data,sl⟩,N,O,n,hd⟩:=id Z;obtain⟨⟨Y,J,data2,D⟩,j,B,n2,hd2⟩:=id p2;simp only at O hd B hd2;subst O hd B hd2;exact i9 ⟨_,N,rfl⟩ ⟨_,j,rfl⟩ iI seq_tuple_add fU fM (fE _ _)
   (tuple_addW0 a b _ _ n n2 dd J sl D rfl) ⟨N,j,⟨.ref b,H,I,rfl,q⟩⟩
def addD(b:Bool):R2D:=λd e S Q=>match d,e with
 |.int i,.int j=>Q (.int (i+j)) S
 |.str x,.str y=>x.length+y.length<=sizeLine/\Q (.str (x++y)) S
 |.tup xs,.tup ys=>xs.length+ys.length<=sizeLine/\Q (.tup (xs++ys)) S
 |d,e=>∃xs ys,lsIs S d xs/\lsIs S e ys/\xs.length+ys.length<=sizeLine/\newL b (xs++ys) S Q
def dX6(K:Fg):R2:=λx y H Q=>rI0 (λi j=>.int (i+j)) x y H Q\/(∃i j,x=.str i/\y=.str j/\i.length+j.length<=sizeLine/\Q (.str (i++j)) H)\/dZm K x y H Q\/eZu K x y H Q\/eZt K x y H Q
theorem dX7(hK:X.K=K:=by rfl):OpR X (ef .Add) (dX6 K):=op_add.or (op_add_str.or ((cJh hK).or ((dX5 hK).or (dX4 hK))))
theorem eZv{b:Bool}:OpD K (dX6 K) (addD b):=by
 intro F S H d e x y Q QD r hd he h c;have lists:(∃xs ys,lsIs S d xs/\lsIs S e ys/\xs.length+ys.length<=sizeLine/\newL b (xs++ys) S QD)->dX6 K x y H Q:=by
  rintro⟨xs,ys,N,L,O,q⟩;obtain⟨a,us,rfl,s1,B⟩:=lsIs.sl r hd N;obtain⟨a2,us2,rfl,s2,p2⟩:=lsIs.sl r he L;exact .inr (.inr (.inr (.inr ⟨a,a2,us,us2,rfl,rfl,s1,s2,by rw[B.length,p2.length];exact O,λp D=>c.new r D (B.app p2) q⟩)))
 cases d with
 |int i =>
  cases e with
  |int j=>rw[rint hd,rint he];exact .inl ⟨i,j,rfl,rfl,c.int r h⟩
  |_=>exact lists h
 |str i =>
  cases e with
  |str j=>rw[rstr hd,rstr he];exact .inr (.inl ⟨i,j,rfl,rfl,h.1,c.str r h.2⟩)
  |_=>exact lists h
 |tup xs =>
  cases e with
  |tup ys =>
   obtain⟨a,us,rfl,s1,B⟩:=tup.st hd;obtain⟨a2,us2,rfl,s2,p2⟩:=tup.st he
   by_cases J:xs=[]
   ·subst J;unfold RepL at B;subst B;exact .inr (.inr (.inr (.inl ⟨a,a2,us2,rfl,rfl,s1,s2,c.here r he (by simpa using h.2)⟩)))
   ·refine .inr (.inr (.inl ⟨a,a2,us,us2,rfl,rfl,s1,s2,λz=>J ?_,by rw[B.length,p2.length];exact h.1,λz=>?_,λ_ p D=>c.tup r D (B.app p2) h.2⟩))
    ·have:=B.length;rw[z] at this;exact bX this.symm
    ·have h0:ys=[]:=by have:=p2.length;rw[z] at this;exact bX this.symm
     subst h0;exact c.here r hd (by simpa using h.2)
  |_=>exact lists h
 |_=>exact lists h
def iiD(C:Int->Int->Prop)(g:Int->Int->D):R2D:=λd e S Q=>match d,e with
 |.int i,.int j=>C i j/\Q (g i j) S
 |_,_=>False
theorem od_I{C:Int->Int->Prop}{g:Int->Int->Int}:OpD K (rI C λi j=>.int (g i j)) (iiD C λi j=>.int (g i j)):=by
 intro F S H d e x y Q QD r hd he h c;cases d with
 |int i =>
  cases e with
  |int j=>rw[rint hd,rint he];exact⟨i,j,rfl,rfl,h.1,c.int r h.2⟩
  |_=>exact h.elim
 |_=>exact h.elim
def iiD0(g:Int->Int->D):R2D:=λd e S Q=>match d,e with
 |.int i,.int j=>Q (g i j) S
 |_,_=>False
theorem fQ9{g:Int->Int->Int}:OpD K (rI0 λi j=>.int (g i j)) (iiD0 λi j=>.int (g i j)):=by
 intro F S H d e x y Q QD r hd he h c;cases d with
 |int i =>
  cases e with
  |int j=>rw[rint hd,rint he];exact⟨i,j,rfl,rfl,c.int r h⟩
  |_=>exact h.elim
 |_=>exact h.elim
theorem eZw{g:Int->Int->Bool}:OpD K (rI0 λi j=>.bl (g i j)) (iiD0 λi j=>.bl (g i j)):=by
 intro F S H d e x y Q QD r hd he h c;cases d with
 |int i =>
  cases e with
  |int j=>rw[rint hd,rint he];exact⟨i,j,rfl,rfl,c.bl r h⟩
  |_=>exact h.elim
 |_=>exact h.elim
section
variable{a b:Expr}{ta tb:ED}{pos:Pos}
theorem aZ4{k:Bool}(ha:PD K X a ta)(hb:PD K X b tb)(hK:X.K=K:=by rfl):PD K X (.BinOp a .Add b pos) (dOp (addD k) ta tb):=e_op (dX7 hK) eZv ha hb
theorem fQa(ha:PD K X a ta)(hb:PD K X b tb):PD K X (.BinOp a .Sub b pos) (dOp (iiD0 λi j=>.int (i-j)) ta tb):=e_op eQo fQ9 ha hb
theorem cJn(ha:PD K X a ta)(hb:PD K X b tb):PD K X (.BinOp a .Mult b pos) (dOp (iiD CMul λi j=>.int (i*j)) ta tb):=e_op eQp od_I ha hb
theorem bZr(ha:PD K X a ta)(hb:PD K X b tb):PD K X (.BinOp a .Mod b pos) (dOp (iiD (λ_ j=>0<j) λi j=>.int (i%j)) ta tb):=e_op eQq od_I ha hb
theorem cZh(ha:PD K X a ta)(hb:PD K X b tb):PD K X (.BinOp a .FloorDiv b pos) (dOp (iiD CDiv λi j=>.int (i/j)) ta tb):=e_op dZe od_I ha hb
theorem fQb(ha:PD K X a ta)(hb:PD K X b tb):PD K X (.BinOp a .Pow b pos) (dOp (iiD CPow λi j=>.int (i^j.toNat)) ta tb):=e_op eQr od_I ha hb
end
def unD(g:Int->D):D->Sto->DK->Prop:=λd S Q=>match d with
 |.int i=>Q (g i) S
 |_=>False
def dUn(rd:D->Sto->DK->Prop)(ta:ED):ED:=fun Γ S Q=>ta Γ S λx S1=>rd x S1 Q
theorem eZx{a:Expr}{ta:ED}{pos:Pos}(ha:PD K X a ta):PD K X (.UnaryOp .USub a pos) (dUn (unD λi=>.int (-i)) ta):=.of (eJy eQs ha.o) fun σ H Q B=>B.el λF S Γ QD r g q c =>
 ⟨F,S,Γ,_,r,g,q,λv d H1 Y J L v1 j=>by
  cases d with
  |int i=>rw[rint v1];exact⟨i,rfl,Cn.int (λv z O N D=>c v z O N (J.trans D)) L j⟩
  |_=>exact j.elim⟩
def dNil:AD:=λ_ S Q=>Q [] S
def bXh(ta:ED)(tr:AD):AD:=fun Γ S Q=>ta Γ S λx S1=>tr Γ S1 λxs S2=>Q (x::xs) S2
theorem aQ1:PAD K X [] dNil:=.of dQj fun σ H Q j=>j.el λF S Γ QD r g q c=>c [] [] H S (Ext.refl _ _) r RepL.nil q
theorem aQ0{e:Expr}{es:List Expr}{te:ED}{t:AD}(ha:PD K X e te)(hr:PAD K X es t)(hs:az (e::es) X.env=(false,eval e X.env)::az es X.env:=by rfl):PAD K X (e::es) (bXh te t) :=
 .of (cQp ha.o hr.o hs) fun σ H Q D=>D.el λF S Γ QD r g q c=>⟨F,S,Γ,_,r,g,q,λv d H1 Z B L v1 O=>⟨F,Z,Γ,_,L,g.ext B,O,λvs ds H2 Y j J v2 N=>c (v::vs) (d::ds) H2 Y (B.trans j) J (RepL.cons (v1.ext j) v2) N⟩⟩
def dTup(t:AD):ED:=fun Γ S Q=>t Γ S λds S1=>ds.length<=sizeLine/\Q (.tup ds) S1
def dLst(b:Bool)(t:AD):ED:=fun Γ S Q=>t Γ S λds S1=>ds.length<=sizeLine/\newL b ds S1 Q
theorem Cn.shift{F:Am}{S S1:Sto}{H H1:Hp}{QD:DK}{Q:VK}(c:∀v d H' S',Ext S H S' H'->Rp K F S' H'->RepV K (mt S' F) H' d v->QD d S'->Q v H')(x:Ext S H S1 H1):Cn K F S1 H1 QD Q:=λv z D B j=>c v z D B (x.trans j)
theorem aZj{es:List Expr}{t:AD}{x1 pos}(h:PAD K X es t):PD K X (.Tuple es x1 pos) (dTup t):=.of (eQw h.o) fun σ H Q B=>B.el λF S Γ QD r g q c =>
 ⟨F,S,Γ,_,r,g,q,λvs ds H1 L x1 D v1 j=>⟨by rw[v1.length];exact j.1,λp J=>(Cn.shift c x1).tup D J v1 j.2⟩⟩
theorem aZt{b:Bool}{es:List Expr}{t:AD}{pos}(h:PAD K X es t):PD K X (.List es pos) (dLst b t):=.of (eQx h.o) fun σ H Q B=>B.el λF S Γ QD r g q c =>
 ⟨F,S,Γ,_,r,g,q,λvs ds H1 N D J v1 j=>⟨by rw[v1.length];exact j.1,λp L=>(Cn.shift c D).new J L v1 j.2⟩⟩
abbrev RCD:=List D->Sto->DK->Prop
def aJu(K:Fg)(r:List V->Hp->VK->Prop)(rd:RCD):Prop:=∀F S H ds vs Q QD,Rp K F S H->RepL K (mt S F) H ds vs->rd ds S QD->Cn K F S H QD Q->r vs H Q
def dCB(rd:RCD)(t:AD):ED:=fun Γ S Q=>t Γ S λds S1=>rd ds S1 Q
theorem dX8{r:List V->Hp->VK->Prop}{rd:RCD}{t:AD}(h:aJu K r rd):∀σ H Q,upE K (dCB rd t) σ H Q->tCB r (upA K t) σ H Q:=fun σ H Q j=>j.el λF S Γ QD r g q c =>
 ⟨F,S,Γ,_,r,g,q,λvs ds H1 L B D v1 J=>h F L H1 ds vs Q QD D v1 J (Cn.shift c B)⟩
theorem aXd{id:String}{r:List V->Hp->VK->Prop}{rd:RCD}{x:Str}{p pos:Pos}{e:Expr}{es:List Expr}{t:AD}(hc:CallR X (.builtin id) r)(h:aJu K r rd)(hg:Gl X x)(hm:X.mg x=none)(hv:cf x=some (.builtin id))(ha:PAD K X (e::es) t)(hn:x ≠ "__name__":=by decide)(hdb:(x==("__debug__":Str))=false:=by decide)
  (he:az (e::es) X.env=(false,eval e X.env)::az es X.env:=by rfl) (hpl:(cq pos (az es X.env)).any (·.1)=false:=by rfl):PD K X (.Call (.Name x p) (e::es) [] pos) (dCB rd t):=.of (bQj hc hg hm hv ha.o hn hdb he hpl) (dX8 h)
theorem aJf{T:String}{r:List V->Hp->VK->Prop}{rd:RCD}{x:Str}{p pos:Pos}{e:Expr}{es:List Expr}{t:AD}(hc:CallR X (.type T) r)(h:aJu K r rd)(hg:Gl X x)(hm:X.mg x=none)(hv:cf x=some (.type T))(ha:PAD K X (e::es) t)(hn:x ≠ "__name__":=by decide)(hdb:(x==("__debug__":Str))=false:=by decide)
  (he:az (e::es) X.env=(false,eval e X.env)::az es X.env:=by rfl) (hpl:(cq pos (az es X.env)).any (·.1)=false:=by rfl):PD K X (.Call (.Name x p) (e::es) [] pos) (dCB rd t):=.of (cQs hc hg hm hv ha.o hn hdb he hpl) (dX8 h)
end
mutual
def beqD:D->D->Bool
 |.non,.non=>true
 |.bl a,.bl b=>a==b
 |.int a,.int b=>decide (a=b)
 |.str a,.str b=>decide (a=b)
 |.ty a,.ty b=>decide (a=b)
 |.ref a,.ref b=>decide (a=b)
 |.tup a,.tup b=>bXi a b
 |.lst a,.lst b=>bXi a b
 |_,_=>false
def bXi:List D->List D->Bool
 |[],[]=>true
 |a::as,b::bs=>beqD a b&&bXi as bs
 |_,_=>false
end
theorem bqE{α:Type}[BEq α][LawfulBEq α]{c:α->D}(inj:∀x y,c x=c y->x=y)(x y:α):(x==y)=true↔c x=c y:=⟨λh=>congrArg c (beq_iff_eq.mp h),λh=>beq_iff_eq.mpr (inj x y h)⟩
theorem bdE{α:Type}{c:α->D}(inj:∀x y,c x=c y->x=y)(x y:α){d:Decidable (x=y)}:@decide (x=y) d=true↔c x=c y:=⟨λh=>congrArg c (of_decide_eq_true h),λh=>decide_eq_true (inj x y h)⟩
theorem bnE{p:Prop}(h:¬ p):false=true↔p:=⟨λz=>absurd z du,λz=>absurd z h⟩
mutual
theorem cZi:∀{a b:D},beqD a b=true↔a=b
 |.non,b=>by
  cases b with
  |non=>exact⟨λ_=>rfl,λ_=>rfl⟩
  |_=>exact bnE (λh=>by cases h)
 |.bl x,b=>by
  cases b with
  |bl y=>exact bqE (λ_ _ h=>by injection h) x y
  |_=>exact bnE (λh=>by cases h)
 |.int x,b=>by
  cases b with
  |int y=>exact bdE (λ_ _ h=>by injection h) x y
  |_=>exact bnE (λh=>by cases h)
 |.str x,b=>by
  cases b with
  |str y=>exact bdE (λ_ _ h=>by injection h) x y
  |_=>exact bnE (λh=>by cases h)
 |.ty x,b=>by
  cases b with
  |ty y=>exact bdE (λ_ _ h=>by injection h) x y
  |_=>exact bnE (λh=>by cases h)
 |.ref x,b=>by
  cases b with
  |ref y=>exact bdE (λ_ _ h=>by injection h) x y
  |_=>exact bnE (λh=>by cases h)
 |.tup as,b=>by
  cases b with
  |tup bs=>exact beqDs_eq.trans ⟨λh=>congrArg D.tup h,λh=>by injection h⟩
  |_=>exact bnE (λh=>by cases h)
 |.lst as,b=>by
  cases b with
  |lst bs=>exact beqDs_eq.trans ⟨λh=>congrArg D.lst h,λh=>by injection h⟩
  |_=>exact bnE (λh=>by cases h)
theorem beqDs_eq:∀{a b:List D},bXi a b=true↔a=b
 |[],b=>by cases b <;> simp[bXi]
 |a::as,[]=>by simp[bXi]
 |a::as,b::bs=>by
  simp only[bXi,bL,bZ.injEq];rw[cZi,beqDs_eq]
end
instance:DecidableEq D:=λa b=>decidable_of_iff _ (cZi (a:=a) (b:=b))
def okE:Nat->D->D->Bool
 |_,.int _,.int _=>true
 |_,.str _,.str _=>true
 |_,.bl _,.bl _=>true
 |_,.non,.non=>true
 |_,.non,.int _=>true
 |_,.int _,.non=>true
 |_,.non,.str _=>true
 |_,.str _,.non=>true
 |n+1,.non,.tup _=>true
 |n+1,.tup _,.non=>true
 |n+1,.tup xs,.tup ys=>(xs.zip ys).all λp=>okE n p.1 p.2
 |n+1,.lst xs,.lst ys=>(xs.zip ys).all λp=>okE n p.1 p.2
 |_,_,_=>false
abbrev okEs(n:Nat)(xs ys:List D):Bool:=(xs.zip ys).all λp=>okE n p.1 p.2
section
variable{X:Cx}{pins:List (Addr×Obj)}{σ:St}{H:Hp}{s:ah}{M:Am}
structure Eq3(A:aW)(s:ah)(u v:ad)(b:Bool):Prop where
 eq:dZ A s u v b
 rc:SeqAt.RcAt A s u v b
 ne:cy A s u v (!b)
theorem dX9{xs ys:List D}:decide (D.tup xs=D.tup ys)=decide (xs=ys):=by simp
theorem dXa{xs ys:List D}:decide (D.lst xs=D.lst ys)=decide (xs=ys):=by simp
theorem dXb{xs ys:List D}{j:Nat}{a b:D}(h1:xs[j]?=some a)(h2:ys[j]?=some b):(a,b)∈xs.zip ys:=by
 have J:j<xs.length:=by
  rcases Nat.lt_or_ge j xs.length with z|z
  ·exact z
  ·rw[bV z] at h1;cases h1
 have B:j<ys.length:=by
  rcases Nat.lt_or_ge j ys.length with z|z
  ·exact z
  ·rw[bV z] at h2;cases h2
 have e1:xs[j]=a:=by rw[ag J] at h1;exact aR h1
 have e2:ys[j]=b:=by rw[ag B] at h2;exact aR h2
 have L:j<(xs.zip ys).length:=by rw[jg];lia
 have:(xs.zip ys)[j]=(a,b):=by rw[List.getElem_zip,e1,e2]
 rw[<- this];exact cS L
theorem dQv{n:Nat}{xs ys:List V}{us vs:List ad}{ds es:List D}{A:aW}(p:RepL X.K M H ds xs)(p':RepL X.K M H es ys)(r:Vals xs us)(r':Vals ys vs)(hz:okEs n ds es=true)
  (ih:∀{d e:D}{x y:V}{u v:ad},RepV X.K M H d x->RepV X.K M H e y->RelV x u->RelV y v->okE n d e=true->Eq3 A s u v (decide (d=e))) :
  ∀j (h1:j<us.toArray.size) (h2:j<vs.toArray.size),dZ A s us.toArray[j] vs.toArray[j] (decide (ds[j]?=es[j]?)):=by
 intro j h1 h2;simp only[av] at h1 h2;have N:j<xs.length:=by have:=r.length;lia
 have L:j<ys.length:=by have:=r'.length;lia
 obtain⟨d,Z,rd⟩:=p.get' (ag N);obtain⟨e,Y,re⟩:=p'.get' (ag L);obtain⟨u,O,ru⟩:=r.get (ag N);obtain⟨v,ev,rv⟩:=r'.get (ag L);have J:us[j]=u:=by rw[ag h1] at O;exact aR O
 have B:vs[j]=v:=by rw[ag h2] at ev;exact aR ev
 have:decide (ds[j]?=es[j]?)=decide (d=e):=by rw[Z,Y];simp
 rw[this];simp only[List.getElem_toArray];rw[J,B];exact(ih rd re ru rv (b8.mp hz _ (dXb Z Y))).eq
theorem dQw{n:Nat}{a b:Addr}{xs ys:List V}{ds es:List D}{A:aW}(I:Inv X pins σ H s)(q:SqL X.K H a xs)(q':SqL X.K H b ys)(p:RepL X.K M H ds xs)(p':RepL X.K M H es ys)(hz:okEs n ds es=true)(hu:A.units+(n+1)<de)
  (ih:∀{d e:D}{x y:V}{u v:ad},RepV X.K M H d x->RepV X.K M H e y->RelV x u->RelV y v->okE n d e=true->Eq3 A.in1 s u v (decide (d=e))) :
  SeqAt.RcAt A s (.ref a) (.ref b) (decide (ds=es))/\cy A s (.ref a) (.ref b) (!decide (ds=es)):=by
 obtain⟨us,O,pl,_⟩:=I.list q;obtain⟨vs,N,B,_⟩:=I.list q';have l1:=p.length;have l2:=p'.length;have Z:=O.length;have Y:=N.length;have it:=dQv (A:=A.in1) p p' O N hz ih
 by_cases hl:ds.length=es.length
 ·have hs:us.toArray.size=vs.toArray.size:=by rw[av,av];lia
  have L:((bQ (us.toArray.size)).all λj=>decide (ds[j]?=es[j]?))=decide (ds=es):=by
   have:=cZ1 ds es us.toArray.size vs.toArray.size (by rw[av];lia) (by rw[av];lia)
   rw[hs,Nat.min_self] at this;rw[hs,<- this];simp
  have h1:=SeqAt.RcAt.lists (e:=λj=>decide (ds[j]?=es[j]?)) pl.isList B.isList hs (show A.units<de by lia) λj h1 h2=>it j h1 h2
  have h2:=cy.lists (e:=λj=>decide (ds[j]?=es[j]?)) pl.isList B.isList hs (show A.units<de by lia) λj h1 h2=>it j h1 h2
  rw[L] at h1 h2;exact⟨h1,h2⟩
 ·have hs:(us.toArray.size !=vs.toArray.size)=true:=by rw[av,av];simp;lia
  have J:ds≠es:=λe=>hl (by rw[e])
  rw[decide_eq_false J];exact⟨SeqAt.RcAt.lists_lengths pl.isList B.isList hs (by lia),cy.lists_lengths pl.isList B.isList hs (by lia)⟩
theorem dXc{n:Nat}(ih:∀{d e:D}{v:V},RepV X.K M H d v->RepV X.K M H e v->okE n d e=true->d=e):∀{ds es:List D}{xs:List V},RepL X.K M H ds xs->RepL X.K M H es xs->okEs n ds es=true->ds=es
 |[],[],_,_,_,_=>rfl
 |[],e::es,xs,p,j,_=>by have h1:=p.length;have h2:=j.length;rw[h1] at h2;simp at h2
 |d::ds,[],xs,p,j,_=>by have h1:=p.length;have h2:=j.length;rw[h1] at h2;simp at h2
 |d::ds,e::es,xs,p,j,h=>by
  unfold RepL at p j;obtain⟨v,vs,rfl,r,l⟩:=p;obtain⟨N,B,e1,J,L⟩:=j;cases e1;simp only[okEs,eQ,List.all_cons,bL] at h;rw[ih r J h.1,dXc ih l L h.2]
theorem uniq(I:Inv X pins σ H s):∀(n:Nat) {d e:D}{v:V},RepV X.K M H d v->RepV X.K M H e v->okE n d e=true->d=e:=by
 intro n
 induction n with
 |zero =>
  intro d e v h h' o;cases d <;> cases e <;> first|rfl|(cases o;done)|(unfold RepV at h h';rw[h] at h';cases h';done)|(unfold RepV at h h';rw[h] at h';cases h';rfl)
 |succ n J =>
  intro d e v h h' o;cases d <;> cases e <;> first|rfl|(cases o;done)|(unfold RepV at h h';rw[h] at h';cases h';done)|(unfold RepV at h h';rw[h] at h';cases h';rfl)|skip
  ·unfold RepV at h h';obtain⟨a,xs,e1,_⟩:=h';rw[h] at e1;cases e1
  ·unfold RepV at h h';obtain⟨a,xs,e1,_⟩:=h;rw[h'] at e1;cases e1
  ·unfold RepV at h h';obtain⟨a,xs,rfl,t,l⟩:=h;obtain⟨b,ys,e1,j,B⟩:=h';cases e1
   have:=I.tuple_inj t.sq j.sq
   subst this;rw[dXc J l B o]
  ·unfold RepV at h h';obtain⟨a,xs,rfl,t,l⟩:=h;obtain⟨b,ys,e1,j,B⟩:=h';cases e1
   have:=I.list_inj t.sq j.sq
   subst this;rw[dXc J l B o]
theorem eq3(I:Inv X pins σ H s):∀(n:Nat) {A:aW}{d e:D}{x y:V}{u v:ad},A.units+n<de->RepV X.K M H d x->RepV X.K M H e y->RelV x u->RelV y v->okE n d e=true->Eq3 A s u v (decide (d=e)):=by
 intro n
 induction n with
 |zero =>
  intro A d e x y u v hu h h' r r' o;cases d <;> cases e <;> first|(cases o;done)|skip
  all_goals unfold RepV at h h';subst h;subst h'
  ·cases r;cases r';exact⟨jh _,SeqAt.RcAt.none_none,cy.none_none⟩
  ·cases r;obtain⟨t,rfl⟩:=r';exact⟨js _ _,SeqAt.RcAt.none_int _ _,cy.none_int _ _⟩
  ·cases r;obtain⟨t,rfl⟩:=r';exact⟨jt _ _,SeqAt.RcAt.none_str _ _,cy.none_str _ _⟩
  ·cases r;cases r';rw[show ∀a b:Bool,decide (D.bl a=D.bl b)=(a==b) from by intro a b;cases a <;> cases b <;> rfl];exact⟨dZ.bool_bool _ _,SeqAt.RcAt.bool_bool _ _,cy.bool_bool _ _⟩
  ·obtain⟨t,rfl⟩:=r;cases r';exact⟨ju _ _,SeqAt.RcAt.int_none _ _,cy.int_none _ _⟩
  ·obtain⟨t,rfl⟩:=r;obtain⟨L,rfl⟩:=r';rw[show ∀a b:Int,decide (D.int a=D.int b)=(a==b) from by intro a b;rw[beq_dec];simp];exact⟨dZ.int_int _ _ _ _,SeqAt.RcAt.int_int _ _ _ _,cy.int_int _ _ _ _⟩
  ·obtain⟨t,rfl⟩:=r;cases r';exact⟨jv _ _,SeqAt.RcAt.str_none _ _,cy.str_none _ _⟩
  ·obtain⟨t,rfl⟩:=r;obtain⟨L,rfl⟩:=r';rw[show ∀a b:Str,decide (D.str a=D.str b)=(a==b) from by intro a b;rw[beq_dec];simp];exact⟨h9 _ _ _ _,SeqAt.RcAt.str_str _ _ _ _,cy.str_str _ _ _ _⟩
 |succ n B =>
  intro A d e x y u v hu h h' r r' o;cases d <;> cases e <;> first|(cases o;done)|skip
  ·exact B (by lia) h h' r r' (by cases n <;> rfl)
  ·exact B (by lia) h h' r r' (by cases n <;> rfl)
  ·exact B (by lia) h h' r r' (by cases n <;> rfl)
  ·unfold RepV at h;subst h;cases r;obtain⟨a,xs,rfl,t,l⟩:=(show RepV X.K M H (.tup _) y from h')
   cases r';obtain⟨us,O,pl,_⟩:=I.tuple t.sq;exact⟨dZ.none_tuple pl (by lia),SeqAt.RcAt.none_tuple pl (by lia),cy.none_tuple pl (by lia)⟩
  ·exact B (by lia) h h' r r' (by cases n <;> rfl)
  ·exact B (by lia) h h' r r' (by cases n <;> rfl)
  ·exact B (by lia) h h' r r' (by cases n <;> rfl)
  ·exact B (by lia) h h' r r' (by cases n <;> rfl)
  ·exact B (by lia) h h' r r' (by cases n <;> rfl)
  ·unfold RepV at h';subst h';cases r';obtain⟨a,xs,rfl,t,l⟩:=(show RepV X.K M H (.tup _) x from h)
   cases r;obtain⟨us,O,pl,_⟩:=I.tuple t.sq;exact⟨dZ.tuple_none pl (by lia),SeqAt.RcAt.tuple_none pl (by lia),cy.tuple_none pl (by lia)⟩
  ·rename_i ds es;have un:=λ{e:D}=>uniq (e:=e) I (n+1) h;have h0:=h;have J:=h';unfold RepV at h h';obtain⟨a,xs,rfl,t,l⟩:=h;obtain⟨b,ys,rfl,L,Y⟩:=h';cases r;cases r';obtain⟨us,O,pl,_⟩:=I.tuple t.sq;obtain⟨vs,rv,N,_⟩:=I.tuple L.sq;have l1:=l.length;have l2:=Y.length;have l3:=O.length;have l4:=rv.length;have it:=dQv (A:=A.in1) l Y O rv o λq q' z Z o=>B (show A.units+1+n<de by lia) q q' z Z o
   have ans:=cZ1 ds es us.toArray.size vs.toArray.size (by rw[av];lia) (by rw[av];lia)
   have h1:=SeqAt.RcAt.tuples pl N (show A.units<de by lia) it
   have h2:=cy.tuples pl N (show A.units<de by lia) it
   rw[ans] at h1 h2;rw[dX9];refine⟨?_,h1,h2⟩
   by_cases j:a=b
   ·subst j;have e1:=un J o;cases e1;rw[decide_eq_true rfl];exact jh _
   ·exact jy j h1
  ·have un:=λ{e:D}=>uniq (e:=e) I (n+1) h;have J:=h';unfold RepV at h h';obtain⟨a,xs,rfl,t,l⟩:=h;obtain⟨b,ys,rfl,L,Y⟩:=h';cases r;cases r';obtain⟨h1,h2⟩:=dQw (A:=A) (n:=n) I t.sq L.sq l Y o hu λq q' z Z o=>B (show A.units+1+n<de by lia) q q' z Z o
   rw[dXa];refine⟨?_,h1,h2⟩
   by_cases j:a=b
   ·subst j;have e1:=un J o;cases e1;rw[decide_eq_true rfl];exact jh _
   ·exact jy j h1
def eqD(neg:Bool):R2D:=λd e S Q=>match d,e with
 |.ref a,e=>∃xs ys,S a=some (.lst xs)/\lsIs S e ys/\okEs 8 xs ys=true/\Q (.bl (if neg then !decide (xs=ys) else decide (xs=ys))) S
 |.lst xs,.ref a=>∃ys,S a=some (.lst ys)/\okEs 8 xs ys=true/\Q (.bl (if neg then !decide (xs=ys) else decide (xs=ys))) S
 |d,e=>okE 9 d e=true/\Q (.bl (if neg then !decide (d=e) else decide (d=e))) S
def rEqA(K:Fg)(neg:Bool):R2:=λx y H Q=>∃b,(∀{X:Cx}{pins:List (Addr×Obj)}{σ:St}{s:ah},Inv X pins σ H s->X.K=K->∀{u v:ad},RelV x u->RelV y v->∀A:aW,A.units+9<de->SeqAt.RcAt A s u v b/\cy A s u v (!b))/\Q (.bl (if neg then !b else b)) H
theorem dQx{K:Fg}(hu:X.A.units+9<de)(hK:X.K=K:=by rfl):OpR X (cC .Eq) (rEqA K false):=by
 intro pins s σ H x y v u Q I B j ⟨b,h,q⟩;exact(h I hK B j X.A hu).1 _ _ _ _ ⟨.bl b,H,I,rfl,q⟩
theorem eZy{K:Fg}(hu:X.A.units+9<de)(hK:X.K=K:=by rfl):OpR X (cC .NotEq) (rEqA K true):=by
 intro pins s σ H x y v u Q I B j ⟨b,h,q⟩;exact(h I hK B j X.A hu).2 _ _ _ _ ⟨.bl (!b),H,I,rfl,q⟩
theorem dXd{K:Fg}{neg:Bool}:OpD K (rEqA K neg) (eqD neg):=by
 intro F S H d e x y Q QD r hd he h c;have lists:∀{xs ys:List D},lsIs S d xs->lsIs S e ys->okEs 8 xs ys=true->QD (.bl (if neg then !decide (xs=ys) else decide (xs=ys))) S->rEqA K neg x y H Q:=by
  intro xs ys l1 Z o q;obtain⟨a,us,rfl,s1,Y⟩:=lsIs.sl r hd l1;obtain⟨a2,us2,rfl,s2,p2⟩:=lsIs.sl r he Z;refine⟨_,λ{X pins σ s} I j u v ru rv A B=>?_,c.bl r q⟩;subst j;cases ru;cases rv;exact dQw I s1 s2 Y p2 o B λq O z N o=>eq3 I 8 (show A.units+1+8<de by lia) q O z N o
 have plain:okE 9 d e=true->QD (.bl (if neg then !decide (d=e) else decide (d=e))) S->rEqA K neg x y H Q:=by
  intro o q;refine⟨_,λ{X pins σ s} I j u v ru rv A B=>?_,c.bl r q⟩;subst j
  have:=eq3 I 9 B hd he ru rv o
  exact⟨this.rc,this.ne⟩
 cases d with
 |ref a=>obtain⟨xs,ys,h1,h2,L,J⟩:=h;exact lists h1 h2 L J
 |lst xs =>
  cases e with
  |ref a=>obtain⟨ys,h2,L,J⟩:=h;exact lists rfl h2 L J
  |_=>exact plain h.1 h.2
 |_=>exact plain h.1 h.2
mutual
def plain:D->Bool
 |.non=>true
 |.bl _=>true
 |.int _=>true
 |.str _=>true
 |.tup xs=>aZ1 xs
 |_=>false
def aZ1:List D->Bool
 |[]=>true
 |x::xs=>plain x&&aZ1 xs
end
mutual
theorem bJ9(I:Inv X pins σ H s):∀{d e:D}{v:V},plain d=true->plain e=true->RepV X.K M H d v->RepV X.K M H e v->d=e
 |.tup ds,e,v,p,p',h,h'=>by
  cases e with
  |tup es =>
   unfold RepV at h h';obtain⟨a,xs,rfl,t,l⟩:=h;obtain⟨b,ys,e1,j,B⟩:=h';cases e1
   have:=I.tuple_inj t.sq j.sq
   subst this;unfold plain at p p';rw[bZs I p p' l B]
  |lst _=>cases p'
  |ref _=>cases p'
  |ty _=>cases p'
  |_ =>
   unfold RepV at h h';obtain⟨a,xs,e1,_⟩:=h;rw[h'] at e1;cases e1
 |.non,e,v,p,p',h,h'=>by
  cases e <;> first|rfl|(cases p';done)|(unfold RepV at h h';rw[h] at h';cases h';done)|(unfold RepV at h h';obtain⟨a,xs,e1,_⟩:=h';rw[h] at e1;cases e1)
 |.bl _,e,v,p,p',h,h'=>by
  cases e <;> first|(cases p';done)|(unfold RepV at h h';rw[h] at h';cases h';done)|(unfold RepV at h h';rw[h] at h';cases h';rfl)|(unfold RepV at h h';obtain⟨a,xs,e1,_⟩:=h';rw[h] at e1;cases e1)
 |.int _,e,v,p,p',h,h'=>by
  cases e <;> first|(cases p';done)|(unfold RepV at h h';rw[h] at h';cases h';done)|(unfold RepV at h h';rw[h] at h';cases h';rfl)|(unfold RepV at h h';obtain⟨a,xs,e1,_⟩:=h';rw[h] at e1;cases e1)
 |.str _,e,v,p,p',h,h'=>by
  cases e <;> first|(cases p';done)|(unfold RepV at h h';rw[h] at h';cases h';done)|(unfold RepV at h h';rw[h] at h';cases h';rfl)|(unfold RepV at h h';obtain⟨a,xs,e1,_⟩:=h';rw[h] at e1;cases e1)
 |.ty _,e,v,p,p',h,h'=>by cases p
 |.ref _,e,v,p,p',h,h'=>by cases p
 |.lst _,e,v,p,p',h,h'=>by cases p
theorem bZs(I:Inv X pins σ H s):∀{ds es:List D}{vs:List V},aZ1 ds=true->aZ1 es=true->RepL X.K M H ds vs->RepL X.K M H es vs->ds=es
 |[],es,vs,p,B,l,j=>by
  have h1:=l.length;have h2:=j.length;rw[h1] at h2;exact(bX h2.symm).symm
 |d::ds,[],vs,p,B,l,j=>by have h1:=l.length;have h2:=j.length;rw[h1] at h2;simp at h2
 |d::ds,e::es,vs,p,B,l,j=>by
  unfold RepL at l j;obtain⟨v,vs,rfl,r,l⟩:=l;obtain⟨N,J,e1,L,j⟩:=j;cases e1;simp only[aZ1,bL] at p B;rw[bJ9 I p.1 B.1 r L,bZs I p.2 B.2 l j]
end
theorem aXt:∀{ds:List D},aZ1 ds=true->∀d∈ds,plain d=true
 |[],_,d,h=>by cases h
 |x::ds,p,d,h=>by
  simp only[aZ1,bL] at p;rcases aM.mp h with rfl|h
  ·exact p.1
  ·exact aXt p.2 d h
def rInA(K:Fg)(neg:Bool):R2:=λx y H Q=>∃p xs b,y=.ref p/\(SqL K H p xs\/SqT K H p xs) /\
 (∀{X:Cx}{pins:List (Addr×Obj)}{σ:St}{s:ah},Inv X pins σ H s->X.K=K->∀{v:ad}{us:List ad},RelV x v->Vals xs us->∀A:aW,A.units+9<de->∃f:ad->Bool,(∀u∈us,dZ A s u v (f u))/\us.any f=b)/\Q (.bl (if neg then !b else b)) H
theorem dQy{K:Fg}(hu:X.A.units+10<de)(hK:X.K=K:=by rfl):OpR X (cC .In) (rInA K false):=by
 intro pins s σ H x y v u Q I B ry h;obtain⟨p,xs,b,rfl,j,hf,q⟩:=h;cases ry;rw[<- hK] at j;rcases j with j|j
 ·obtain⟨its,r,pl,D⟩:=I.list j;obtain⟨f,f1,f2⟩:=hf I hK B r X.A.in1 (show X.A.units+1+9<de by lia)
  refine SeqAt.in_listAt f pl.isList (λw hw=>f1 w (by simpa using hw)) ⟨.bl _,H,I,rfl,?_⟩
  rw[show its.toArray.any f=its.any f by simp,f2]
  exact q
 ·obtain⟨its,r,pl,D⟩:=I.tuple j;obtain⟨f,f1,f2⟩:=hf I hK B r X.A.in1 (show X.A.units+1+9<de by lia)
  refine SeqAt.in_tupleAt f pl (λw hw=>f1 w (by simpa using hw)) ⟨.bl _,H,I,rfl,?_⟩
  rw[show its.toArray.any f=its.any f by simp,f2]
  exact q
theorem dXe{K:Fg}(hu:X.A.units+10<de)(hK:X.K=K:=by rfl):OpR X (cC .NotIn) (rInA K true):=by
 intro pins s σ H x y v u Q I B ry h;obtain⟨p,xs,b,rfl,j,hf,q⟩:=h;cases ry;rw[<- hK] at j;rcases j with j|j
 ·obtain⟨its,r,pl,D⟩:=I.list j;obtain⟨f,f1,f2⟩:=hf I hK B r X.A.in1 (show X.A.units+1+9<de by lia)
  refine SeqAt.notIn_listAt f pl.isList (λw hw=>f1 w (by simpa using hw)) ⟨.bl _,H,I,rfl,?_⟩
  rw[show its.toArray.any f=its.any f by simp,f2]
  exact q
 ·obtain⟨its,r,pl,D⟩:=I.tuple j;obtain⟨f,f1,f2⟩:=hf I hK B r X.A.in1 (show X.A.units+1+9<de by lia)
  refine SeqAt.notIn_tupleAt f pl (λw hw=>f1 w (by simpa using hw)) ⟨.bl _,H,I,rfl,?_⟩
  rw[show its.toArray.any f=its.any f by simp,f2]
  exact q
def inD(neg:Bool):R2D:=λd e S Q=>∃xs,sqIs S e xs/\aZ1 xs=true/\(xs.all λy=>okE 8 y d)=true/\Q (.bl (if neg then !decide (d∈xs) else decide (d∈xs))) S
theorem eZz(I:Inv X pins σ H s){d:D}{x:V}{v:ad}(rx:RelV x v)(hd:RepV X.K M H d x){A:aW}(hA:A.units+9<de):∀{xs:List V}{us:List ad}{ds:List D},RepL X.K M H ds xs->Vals xs us->aZ1 ds=true->(ds.all λy=>okE 8 y d)=true ->
  ∃f:ad->Bool,(∀u∈us,dZ A s u v (f u))/\us.any f=decide (d∈ds):=by
 classical
 intro xs us ds l r p o;have key:∀{y:V}{u:ad}{e:D},e∈ds->RepV X.K M H e y->RelV y u->decide (∃y e,e∈ds/\RepV X.K M H e y/\RelV y u/\e=d)=decide (e=d):=by
  intro y u e hm he j
  congr 1
  refine propext ⟨λ⟨y',e',J,h1,h2,Y⟩=>?_,λh=>⟨y,e,hm,he,j,h⟩⟩
  have:=h2.inj j
  subst this;rw[<- Y];exact bJ9 I (aXt p e hm) (aXt p e' J) he h1
 refine⟨λu=>decide (∃y e,e∈ds/\RepV X.K M H e y/\RelV y u/\e=d),?_,?_⟩
 ·intro u O;obtain⟨i,hi,rfl⟩:=cg O;have h1:=r.length;have h2:=l.length;obtain⟨e,Z,re⟩:=l.get' (ag (show i<xs.length by lia))
  obtain⟨u',eu,j⟩:=r.get (ag (show i<xs.length by lia))
  rw[ag hi] at eu;cases eu;have hm:e∈ds:=ao Z;show dZ A s us[i] v (decide (∃y e,e∈ds/\RepV X.K M H e y/\RelV y us[i]/\e=d));rw[key hm re j];exact(eq3 I 8 (by lia) re hd j rx (b8.mp o e hm)).eq
 ·have gen:∀{zs:List V}{ws:List ad}{es:List D},RepL X.K M H es zs->Vals zs ws->(∀e∈es,e∈ds)->ws.any (λu=>decide (∃y e,e∈ds/\RepV X.K M H e y/\RelV y u/\e=d))=decide (d∈es):=by
   intro zs ws es
   induction es generalizing zs ws with
   |nil =>
    intro l r _;unfold RepL at l;subst l;cases r;simp
   |cons e es N =>
    intro l r hm;unfold RepL at l;obtain⟨z,zs,rfl,B,L⟩:=l;cases r with
    |cons q t =>
     rw[List.any_cons,key (hm e au) B q,N L t λe he=>hm e (ay _ he)]
     by_cases h:e=d
     ·simp[h]
     ·have h':¬ d=e:=λz=>h z.symm;simp[h,h']
  exact gen l r λ_ h=>h
theorem dXf{K:Fg}{neg:Bool}:OpD K (rInA K neg) (inD neg):=by
 intro F S H d e x y Q QD r hd he ⟨ds,hs,p,o,q⟩ c;obtain⟨a,xs,rfl,sq,l⟩:=hs.sq r he;refine⟨a,xs,decide (d∈ds),rfl,sq,λ{X pins σ s} I D {v us} j B A J=>?_,c.bl r q⟩;subst D;exact eZz I j hd J l B p o
variable{K:Fg}{a b:Expr}{ta tb:ED}{pos:Pos}{k:Nat}
theorem lt10{n:Nat}{A:aW}(r:Room k A)(h:n<=64:=by decide):A.units+n<de:=by have:=r.units;lia
theorem e_eq(hr:Room k X.A)(ha:PD K X a ta)(hb:PD K X b tb)(hK:X.K=K:=by rfl):PD K X (.Compare a [.Eq] [b] pos) (dOp (eqD false) ta tb):=eZr (dQx (lt10 hr) hK) dXd ha hb (nomark _)
theorem dXg(hr:Room k X.A)(ha:PD K X a ta)(hb:PD K X b tb)(hK:X.K=K:=by rfl):PTD K X (.Compare a [.Eq] [b] pos) (aXh (dOp (eqD false) ta tb)):=aXa (dQx (lt10 hr) hK) dXd ha hb (nomark _)
theorem eX0(hr:Room k X.A)(ha:PD K X a ta)(hb:PD K X b tb)(hK:X.K=K:=by rfl):PTD K X (.Compare a [.NotEq] [b] pos) (aXh (dOp (eqD true) ta tb)):=aXa (eZy (lt10 hr) hK) dXd ha hb (nomark _)
theorem e_in(hr:Room k X.A)(ha:PD K X a ta)(hb:PD K X b tb)(hm:dX .In b=false:=by rfl)(hK:X.K=K:=by rfl):PD K X (.Compare a [.In] [b] pos) (dOp (inD false) ta tb):=eZr (dQy (lt10 hr) hK) dXf ha hb hm
theorem fQc(hr:Room k X.A)(ha:PD K X a ta)(hb:PD K X b tb)(hm:dX .In b=false:=by rfl)(hK:X.K=K:=by rfl):PTD K X (.Compare a [.In] [b] pos) (aXh (dOp (inD false) ta tb)):=aXa (dQy (lt10 hr) hK) dXf ha hb hm
theorem bZt(hr:Room k X.A)(ha:PD K X a ta)(hb:PD K X b tb)(hm:dX .NotIn b=false:=by rfl)(hK:X.K=K:=by rfl):PTD K X (.Compare a [.NotIn] [b] pos) (aXh (dOp (inD true) ta tb)):=aXa (dXe (lt10 hr) hK) dXf ha hb hm
end
end L2
namespace HT
open PySem PySem.Spec PyProof.Rows
section
variable{prog:aE}{w:aQ}{A:aW}{E:ad->ah->Prop}{s:ah}
theorem tup_slice{t sl:Addr}{items:Array ad}{Q:ad->ah->Prop}(ht:IsTup s.heap t items)(hTs:s.TypeIs (.ref sl) "slice")
    (h:∀ A,aF (aB prog w) A (ff (.ref sl) (pure (items.size:Int))) (λr s'=>s'=s /\
      ((r.1=0 /\ r.2.1=1 /\ r.2.2=items.size /\ Q (.ref t) s) \/
       (¬ (r.1==0&&r.2.1==1&&r.2.2==items.size)=true/\sizeOk (.seq ((bQ r.2.2).filterMap λ(k:Nat)=>items[(r.1+(k:Int)*r.2.1).toNat]?).toArray)/\Q (.ref s.heap.objs.size) {s with heap:=s.heap.push {cls:=.type "tuple",data:=.seq ((bQ r.2.2).filterMap λ(k:Nat)=>items[(r.1+(k:Int)*r.2.1).toNat]?).toArray}}))) E s) :
    aF (aB prog w) A (gA (.ref t) (.ref sl)) Q E s:=by
  unfold gA
  try with_reducible refine bb ?_
  first|refine aa (ae ?_)|skip
  refine aa (wpAny_sequenceKey ht.typeIs (by decide) ?_)
  refine aa (cK (name:=Str.ofString "__getitem__") ht.typeIs cb
    (cD cb ht.typeIs entry_tuple_getitem ?_ (args_tuple_getitem _ _)))
  show aF _ _ (hJ (.ref t)>>=_) _ _ s;refine aa (tupleItemsOf_ ht (aa (fw hTs ?_)));rw [if_pos (by decide)]
  refine aa (cj (h _) (λr s' ⟨e,q⟩=>?_) λ_ _ x=>x);subst e;obtain⟨lo,st,n⟩:=r;show aF _ _ (if (lo==0&&st==1&&n==items.size)=true then _ else _) _ _ _
  rcases q with⟨h1,h2,D,q⟩|⟨B,j,q⟩
  · have e1:lo=0:=h1
    have e2:st=1:=h2;have J:n=items.size:=D;rw [if_pos (by rw [e1,e2,J]; simp)]
    unfold bU.Tuple.tupleIsExact;refine aa (aa (fw ht.typeIs (ae ?_)));rw [if_pos (by decide)]
    refine aa (cx ?_)
    first
      |exact ae ⟨_,rfl,ae q⟩
      |exact aa (ae ⟨_,rfl,ae q⟩)
      |exact aa (ae (ae ⟨_,rfl,ae q⟩))
  · rw [if_neg B]
    first
      |exact aa (m:=ca _) (bd (ae ⟨_,rfl,ae q⟩) j)
      |exact aa (m:=ca _) (bd (aa (ae (ae ⟨_,rfl,ae q⟩))) j)
      |exact aa (aa (m:=ca _) (bd (ae (ae ⟨_,rfl,ae q⟩)) j))
      |exact aa (aa (m:=ca _) (bd (ae ⟨_,rfl,ae q⟩) j))
end
end HT
namespace L2
open PySem PySem.Spec PyProof.Rows
section
variable{X:Cx}{K:Fg}
def rSlW(K:Fg):V->Option Int->Option Int->Hp->VK->Prop:=λx lo hi H Q=>∃a xs,x=.ref a/\SqT K H a xs/\HT.sIx xs.length 0 lo=0/\HT.sIx xs.length xs.length hi=xs.length/\Q (.ref a) H
theorem dXh(hK:X.K=K:=by rfl):SlR X (rSlW K):=by
 subst hK;intro pins s σ H x v O N lo hi sl Q I rx hs pl pu h;obtain⟨a,xs,rfl,J,h0,hn,q⟩:=h;cases rx;obtain⟨its,r,D,Y⟩:=I.tuple J;have hlen:its.toArray.size=xs.length:=by rw[av];exact r.length.symm
 obtain⟨os,j,B,L⟩:=id hs;refine⟨"tuple",_,cb.lookup,D.typeIs,HT.tup_slice D ⟨os,j,B⟩ λA=>HT.sliceApplied_gen hs pl pu ⟨rfl,.inl ⟨?_,rfl,?_,.ref a,H,I,rfl,q⟩⟩⟩
 ·show((HT.sIx its.toArray.size 0 lo:Nat):Int)=0;rw[hlen,h0];rfl
 ·show HT.sIx its.toArray.size its.toArray.size hi-HT.sIx its.toArray.size 0 lo=its.toArray.size;rw[hlen,h0,hn];rfl
end
end L2
set_option maxHeartbeats 1000000
namespace L2
open PySem PySem.Spec PyProof.Rows
section
variable{X:Cx}{K:Fg}{a b:Expr}{ta tb:ED}{pos:Pos}{k:Nat}
def ltD:R2D:=λd e S Q=>match d,e with
 |.int i,.int j=>Q (.bl (decide (i<j))) S
 |.str x,.str y=>Q (.bl (HT.ltS x y)) S
 |.tup xs,.tup ys=>∃as bs,xs=as.map D.str/\ys=bs.map D.str/\Q (.bl (HT.lexS as bs)) S
 |_,_=>False
def rLtA(K:Fg):R2:=λx y H Q=>rI0 (λi j=>.bl (decide (i<j))) x y H Q\/(∃i j,x=.str i/\y=.str j/\Q (.bl (decide (i.cps.toList<j.cps.toList))) H)\/rLtS K x y H Q
theorem eX1(hu:X.A.units<de)(hK:X.K=K:=by rfl):OpR X (cC .Lt) (rLtA K):=op_lt.or (op_lt_str.or (dZw hu hK))
theorem cZj{M:Am}{H:Hp}:∀{as:List Str}{xs:List V},RepL K M H (as.map D.str) xs->bG (dS H) xs as
 |[],xs,h=>by rw[eP] at h;unfold RepL at h;subst h;exact .nil
 |a::as,xs,h=>by
  rw[bg] at h;unfold RepL at h;obtain⟨v,vs,rfl,r,l⟩:=h;unfold RepV at r;exact .cons r (cZj l)
theorem bXj{S:Sto}{F:Am}{H:Hp}{as:List Str}{v:V}(h:RepV K (mt S F) H (.tup (as.map D.str)) v):dT K dS H v as:=by
 obtain⟨a,xs,rfl,t,l⟩:=tup.st h;exact⟨a,xs,rfl,t,cZj l⟩
theorem fQd:OpD K (rLtA K) ltD:=by
 intro F S H d e x y Q QD r hd he h c;cases d with
 |int i =>
  cases e with
  |int j=>rw[rint hd,rint he];exact .inl ⟨i,j,rfl,rfl,c.bl r h⟩
  |_=>exact h.elim
 |str i =>
  cases e with
  |str j=>rw[rstr hd,rstr he];exact .inr (.inl ⟨i,j,rfl,rfl,c.bl r h⟩)
  |_=>exact h.elim
 |tup xs =>
  cases e with
  |tup ys =>
   obtain⟨as,bs,rfl,rfl,q⟩:=h;exact .inr (.inr ⟨as,bs,bXj hd,bXj he,c.bl r q⟩)
  |_=>exact h.elim
 |_=>exact h.elim
theorem cJo(hr:Room k X.A)(ha:PD K X a ta)(hb:PD K X b tb)(hK:X.K=K:=by rfl):PTD K X (.Compare a [.Lt] [b] pos) (aXh (dOp ltD ta tb)):=aXa (eX1 hr.units0 hK) fQd ha hb (nomark _)
abbrev gtD:R2D:=iiD0 λi j=>.bl (decide (j<i))
abbrev geD:R2D:=iiD0 λi j=>.bl (decide (j<=i))
theorem dXi(hr:Room k X.A)(ha:PD K X a ta)(hb:PD K X b tb):PTD K X (.Compare a [.Gt] [b] pos) (aXh (dOp gtD ta tb)):=aXa eJz eZw ha hb (nomark _)
theorem fQe(hr:Room k X.A)(ha:PD K X a ta)(hb:PD K X b tb):PTD K X (.Compare a [.GtE] [b] pos) (aXh (dOp geD ta tb)):=aXa fQ0 eZw ha hb (nomark _)
def cZk:D->Bool
 |.non=>true
 |_=>false
def isD(neg:Bool):R2D:=λd e S Q=>match d,e with
 |.bl x,.bl y=>Q (.bl (if neg then x !=y else x==y)) S
 |d,.non=>Q (.bl (if neg then !cZk d else cZk d)) S
 |_,_=>False
def rIsA(neg:Bool):R2:=λx y H Q=>(∃i j,x=.bl i/\y=.bl j/\Q (.bl (if neg then i !=j else i==j)) H)\/(y=.non/\Q (.bl (if neg then !decide (x=.non) else decide (x=.non))) H)
theorem eX2:OpR X (cC .Is) (rIsA false):=OpR.or (by
 intro pins s σ H x y v u Q I rx ry h;obtain⟨i,j,rfl,rfl,q⟩:=h;cases rx;cases ry;exact is_bool ⟨.bl _,H,I,rfl,q⟩) eQt
theorem cJp:OpR X (cC .IsNot) (rIsA true):=OpR.or (by
 intro pins s σ H x y v u Q I rx ry h;obtain⟨i,j,rfl,rfl,q⟩:=h;cases rx;cases ry;exact isnot_bool ⟨.bl _,H,I,rfl,q⟩) dZf
theorem cJq{M:Am}{H:Hp}{d:D}{x:V}(h:RepV K M H d x):decide (x=.non)=cZk d:=by
 cases d <;> unfold RepV at h <;> first|(rw[h];rfl)|(obtain⟨a,xs,rfl,_⟩:=h;rfl)|skip
theorem eX3{neg:Bool}:OpD K (rIsA neg) (isD neg):=by
 intro F S H d e x y Q QD r hd he h c;have non:e=.non->QD (.bl (if neg then !cZk d else cZk d)) S->rIsA neg x y H Q:=by
  rintro rfl q;rw[rnon he];refine .inr ⟨rfl,?_⟩;rw[cJq hd];exact c.bl r q
 cases e with
 |non=>exact non rfl (by cases d <;> exact h)
 |bl j =>
  cases d with
  |bl i=>rw[rbl hd,rbl he];exact .inl ⟨i,j,rfl,rfl,c.bl r h⟩
  |_=>exact h.elim
 |_=>cases d <;> exact h.elim
theorem fQf(hr:Room k X.A)(ha:PD K X a ta)(hb:PD K X b tb):PTD K X (.Compare a [.Is] [b] pos) (aXh (dOp (isD false) ta tb)):=aXa eX2 eX3 ha hb (nomark _)
theorem bXk(hr:Room k X.A)(ha:PD K X a ta)(hb:PD K X b tb):PTD K X (.Compare a [.IsNot] [b] pos) (aXh (dOp (isD true) ta tb)):=aXa cJp eX3 ha hb (nomark _)
structure PWD(K:Fg)(X:Cx)(e:Expr)(t:TD):Prop where
 o:PW X e (upT K t)
def dAnd(t u:TD):TD:=fun Γ S Q=>t Γ S λc S1=>if c=true then u Γ S1 Q else Q false S1
def dOr(t u:TD):TD:=fun Γ S Q=>t Γ S λc S1=>if c=true then Q true S1 else u Γ S1 Q
def dNot(t:TD):TD:=fun Γ S Q=>t Γ S λc S1=>Q (!c) S1
section
variable{tA tB':TD}{rest:List Expr}
theorem PWD.pt{e:Expr}{t:TD}(h:PWD K X e t):PTD K X e t:=⟨PW.pt h.o⟩
theorem PWD.of{e:Expr}{te:TT}{t:TD}(h:PW X e te)(i:∀σ H Q,upT K t σ H Q->te σ H Q):PWD K X e t:=⟨λj pins s σ H Q I q=>h j pins s σ H Q I (i σ H Q q)⟩
theorem bXl(ha:PTD K X a tA):PWD K X (.BoolOp .And [a] pos) tA:=⟨dZ9 ha.o⟩
theorem eX4(ha:PTD K X a tA):PWD K X (.BoolOp .Or [a] pos) tA:=⟨eQe ha.o⟩
theorem cZl(ha:PTD K X a tA)(hb:PWD K X (.BoolOp .And (b::rest) pos) tB'):PWD K X (.BoolOp .And (a::b::rest) pos) (dAnd tA tB'):=.of (eQf ha.o hb.o) fun σ H Q J=>J.el λF S Γ QD r g q c =>
 ⟨F,S,Γ,_,r,g,q,λz H1 O j B D=>by
  cases z with
  |true=>exact⟨F,O,Γ,QD,B,g.ext j,D,λz Y N L=>c z Y N (j.trans L)⟩
  |false=>exact c _ _ _ j B D⟩
theorem fQg(ha:PTD K X a tA)(hb:PWD K X (.BoolOp .Or (b::rest) pos) tB'):PWD K X (.BoolOp .Or (a::b::rest) pos) (dOr tA tB'):=.of (eJr ha.o hb.o) fun σ H Q J=>J.el λF S Γ QD r g q c =>
 ⟨F,S,Γ,_,r,g,q,λz H1 O j B D=>by
  cases z with
  |false=>exact⟨F,O,Γ,QD,B,g.ext j,D,λz Y N L=>c z Y N (j.trans L)⟩
  |true=>exact c _ _ _ j B D⟩
theorem bJa(ha:PTD K X a tA):PTD K X (.UnaryOp .Not a pos) (dNot tA):=.of (eQg ha.o) fun σ H Q j=>j.el λF S Γ QD r g q c=>⟨F,S,Γ,_,r,g,q,λz H1 L B D J=>c _ _ _ B D J⟩
end
def truD(S:Sto)(d:D)(k:Bool->Prop):Prop:=match d with
 |.non=>k false
 |.bl b=>k b
 |.int i=>k (i !=0)
 |.str x=>x.length<=sizeLine/\k ((x.length:Int) !=0)
 |.tup xs=>k (!xs.isEmpty)
 |.lst xs=>k (!xs.isEmpty)
 |.ref a=>∃xs,S a=some (.lst xs)/\k (!xs.isEmpty)
 |.ty _=>False
def dTru(ta:ED):TD:=fun Γ S Q=>ta Γ S λd S1=>truD S1 d λb=>Q b S1
theorem cZm{M:Am}{H:Hp}{ds:List D}{xs:List V}(l:RepL K M H ds xs):(!xs.isEmpty)=!ds.isEmpty:=by
 have:=l.length
 cases ds <;> cases xs <;> first|rfl|simp at this
theorem bQc(ha:PD K X a ta)(he:∀whole,isTrue a X.env whole=(do let v <- whole;fF a.pos;ft [v] (truthy v)):=by intro _;rfl)(hK:X.K=K:=by rfl):PTD K X a (dTru ta):=.of (cZ8 (K:=K) ha.o he hK) fun σ H Q L=>L.el λF S Γ QD r g q c =>
 ⟨F,S,Γ,_,r,g,q,λv d H1 J D B v1 j=>by
  cases d with
  |non=>rw[rnon v1];exact⟨false,rfl,c _ _ _ D B j⟩
  |bl b=>rw[rbl v1];exact⟨b,rfl,c _ _ _ D B j⟩
  |int b=>rw[rint v1];exact⟨_,rfl,c _ _ _ D B j⟩
  |str b=>rw[rstr v1];exact⟨_,⟨j.1,rfl⟩,c _ _ _ D B j.2⟩
  |ty b=>exact j.elim
  |tup xs =>
   obtain⟨p,us,rfl,t,l⟩:=tup.st v1;exact⟨_,.inr (.inl ⟨us,t,rfl⟩),c _ _ _ D B (by rw[cZm l];exact j)⟩
  |lst xs =>
   obtain⟨p,us,rfl,t,l⟩:=lsIs.sl B v1 (show lsIs J (.lst xs) xs from rfl)
   exact⟨_,.inl ⟨us,t,rfl⟩,c _ _ _ D B (by rw[cZm l];exact j)⟩
  |ref p =>
   obtain⟨xs,e,j⟩:=j;obtain⟨p,us,rfl,t,l⟩:=lsIs.sl B v1 (show lsIs J (.ref p) xs from e)
   exact⟨_,.inl ⟨us,t,rfl⟩,c _ _ _ D B (by rw[cZm l];exact j)⟩⟩
section
variable{e:Expr}{t:AD}{p:Pos}
def lenD:RCD:=λds S Q=>match ds with
 |[.str x]=>x.length<=sizeLine/\Q (.int x.length) S
 |[d]=>∃xs,sqIs S d xs/\Q (.int xs.length) S
 |_=>False
theorem cZn(hK:X.K=K:=by rfl):CallR X (.builtin "len") (λxs H Q=>∃x n,xs=[x]/\LenV K x H n/\Q (.int n) H):=hK▸cJ6
theorem eX5:aJu K (λxs H Q=>∃x n,xs=[x]/\LenV K x H n/\Q (.int n) H) lenD:=by
 intro F S H ds vs Q QD r l h c
 match ds,h with
 |[d],h =>
  obtain⟨v,rfl,j⟩:=l.one;have seq:(∃xs,sqIs S d xs/\QD (.int xs.length) S)->∃x n,[v]=[x]/\LenV K x H n/\Q (.int n) H:=by
   rintro⟨xs,h1,q⟩;obtain⟨a,us,rfl,sq,l⟩:=h1.sq r j;refine⟨_,xs.length,rfl,?_,c.int r q⟩;rcases sq with sq|sq
   ·exact .inl ⟨us,sq,l.length.symm⟩
   ·exact .inr ⟨us,sq,l.length.symm⟩
  cases d with
  |str x=>rw[rstr j];exact⟨_,x.length,rfl,⟨h.1,rfl⟩,c.int r h.2⟩
  |_=>exact seq h
 |[],h=>exact h.elim
 |d::_::_,h=>cases d <;> exact h.elim
theorem aXi(hg:Gl X "len")(hm:X.mg "len"=none)(ha:PAD K X [e] t)(hK:X.K=K:=by rfl)(he:az [e] X.env=(false,eval e X.env)::az [] X.env:=by rfl)(hpl:(cq pos (az [] X.env)).any (·.1)=false:=by rfl):PD K X (.Call (.Name "len" p) [e] [] pos) (dCB lenD t):=aXd (cZn hK) eX5 hg hm eZ5 ha (by decide) (by decide) he hpl
def tupD:RCD:=λds S Q=>match ds with
 |[d]=>∃xs,sqIs S d xs/\Q (.tup xs) S
 |_=>False
theorem eX6:aJu K (λxs H Q=>∃p ys,xs=[.ref p]/\((SqL K H p ys/\∀l,H l=none->Q (.ref l) (upd H l (.tup ys)))\/(SqT K H p ys/\Q (.ref p) H))) tupD:=by
 intro F S H ds vs Q QD r l h c
 match ds,h with
 |[d],⟨xs,h1,q⟩ =>
  obtain⟨v,rfl,j⟩:=l.one;cases d with
  |tup ys =>
   cases h1;obtain⟨a,us,rfl,sq,l⟩:=tup.st j;exact⟨a,us,rfl,.inr ⟨sq,c.here r j q⟩⟩
  |lst ys =>
   obtain⟨a,us,rfl,sq,l⟩:=lsIs.sl r j (show lsIs S (.lst ys) xs from h1)
   exact⟨a,us,rfl,.inl ⟨sq,λp B=>c.tup r B l q⟩⟩
  |ref y =>
   obtain⟨a,us,rfl,sq,l⟩:=lsIs.sl r j (show lsIs S (.ref y) xs from h1)
   exact⟨a,us,rfl,.inl ⟨sq,λp B=>c.tup r B l q⟩⟩
  |_=>exact h1.elim
theorem aQm(hg:Gl X "tuple")(hm:X.mg "tuple"=none)(ha:PAD K X [e] t)(hK:X.K=K:=by rfl)(he:az [e] X.env=(false,eval e X.env)::az [] X.env:=by rfl)(hpl:(cq pos (az [] X.env)).any (·.1)=false:=by rfl):PD K X (.Call (.Name "tuple" p) [e] [] pos) (dCB tupD t):=aJf (bXd hK) eX6 hg hm cJb ha (by decide) (by decide) he hpl
def lstD(b:Bool):RCD:=λds S Q=>match ds with
 |[d]=>∃xs,sqIs S d xs/\newL b xs S Q
 |_=>False
theorem eX7{b:Bool}:aJu K (λxs H Q=>∃p ys,xs=[.ref p]/\(SqL K H p ys\/SqT K H p ys)/\∀l,H l=none->Q (.ref l) (upd H l (.lst ys))) (lstD b):=by
 intro F S H ds vs Q QD r l h c
 match ds,h with
 |[d],⟨xs,h1,q⟩ =>
  obtain⟨v,rfl,j⟩:=l.one;obtain⟨a,us,rfl,sq,l⟩:=h1.sq r j;exact⟨a,us,rfl,sq,λp B=>c.new r B l q⟩
theorem eX8{b:Bool}(hg:Gl X "list")(hm:X.mg "list"=none)(ha:PAD K X [e] t)(hK:X.K=K:=by rfl)(he:az [e] X.env=(false,eval e X.env)::az [] X.env:=by rfl)(hpl:(cq pos (az [] X.env)).any (·.1)=false:=by rfl):PD K X (.Call (.Name "list" p) [e] [] pos) (dCB (lstD b) t):=aJf (cQ3 hK) eX7 hg hm cQx ha (by decide) (by decide) he hpl
def i2D(g:Int->Int->Int):RCD:=λds S Q=>match ds with
 |[.int i,.int j]=>Q (.int (g i j)) S
 |_=>False
theorem fQh{g:Int->Int->Int}:aJu K (λxs H Q=>∃i j,xs=[.int i,.int j]/\Q (.int (g i j)) H) (i2D g):=by
 intro F S H ds vs Q QD r l h c
 match ds,h with
 |[.int i,.int j],h =>
  obtain⟨v,w,rfl,D,B⟩:=l.two;rw[rint D,rint B];exact⟨i,j,rfl,c.int r h⟩
theorem fQi{e2:Expr}(hg:Gl X "min")(hm:X.mg "min"=none)(ha:PAD K X [e,e2] t)(hc:X.calm=true:=by rfl)(he:az [e,e2] X.env=(false,eval e X.env)::az [e2] X.env:=by rfl)(hpl:(cq pos (az [e2] X.env)).any (·.1)=false:=by rfl):PD K X (.Call (.Name "min" p) [e,e2] [] pos) (dCB (i2D λi j=>if j<i then j else i) t):=aXd (cQn hc) fQh hg hm eZ6 ha (by decide) (by decide) he hpl
def intD:RCD:=λds S Q=>match ds with
 |[.int i]=>Q (.int i) S
 |[.bl k]=>Q (.int (if k then 1 else 0)) S
 |_=>False
theorem eX9(hg:Gl X "int")(hm:X.mg "int"=none)(ha:PAD K X [e] t)(he:az [e] X.env=(false,eval e X.env)::az [] X.env:=by rfl)(hpl:(cq pos (az [] X.env)).any (·.1)=false:=by rfl):PD K X (.Call (.Name "int" p) [e] [] pos) (dCB intD t):=aJf cQo (by
 intro F S H ds vs Q QD r l h c
 match ds,h with
 |[.int i],h=>obtain⟨v,rfl,j⟩:=l.one;rw[rint j];exact .inl ⟨i,rfl,c.int r h⟩
 |[.bl i],h=>obtain⟨v,rfl,j⟩:=l.one;rw[rbl j];exact .inr ⟨i,rfl,c.int r h⟩) hg hm eZ8 ha (by decide) (by decide) he hpl
theorem bJb{M:Am}{H:Hp}:∀{bs:List Bool}{xs:List V},RepL K M H (bs.map D.bl) xs->bG (dB H) xs bs
 |[],xs,h=>by rw[eP] at h;unfold RepL at h;subst h;exact .nil
 |a::as,xs,h=>by
  rw[bg] at h;unfold RepL at h;obtain⟨v,vs,rfl,r,l⟩:=h;unfold RepV at r;exact .cons r (bJb l)
def quD(g:List Bool->Bool):RCD:=λds S Q=>match ds with
 |[d]=>∃bs,lsIs S d (bs.map D.bl)/\Q (.bl (g bs)) S
 |_=>False
theorem eXa{g:List Bool->Bool}:aJu K (λxs H Q=>∃x bs,xs=[x]/\dL K dB H x bs/\Q (.bl (g bs)) H) (quD g):=by
 intro F S H ds vs Q QD r l h c
 match ds,h with
 |[d],⟨bs,h1,q⟩ =>
  obtain⟨v,rfl,j⟩:=l.one;obtain⟨a,us,rfl,sq,l⟩:=lsIs.sl r j h1;exact⟨_,bs,rfl,⟨a,us,rfl,sq,bJb l⟩,c.bl r q⟩
theorem fQj(hg:Gl X "all")(hm:X.mg "all"=none)(ha:PAD K X [e] t)(hK:X.K=K:=by rfl)(hc:X.calm=true:=by rfl)(he:az [e] X.env=(false,eval e X.env)::az [] X.env:=by rfl)(hpl:(cq pos (az [] X.env)).any (·.1)=false:=by rfl):PD K X (.Call (.Name "all" p) [e] [] pos) (dCB (quD λbs=>bs.all id) t):=aXd (cZ6 hK hc) eXa hg hm eZ7 ha (by decide) (by decide) he hpl
theorem eXb(hg:Gl X "any")(hm:X.mg "any"=none)(ha:PAD K X [e] t)(hK:X.K=K:=by rfl)(hc:X.calm=true:=by rfl)(he:az [e] X.env=(false,eval e X.env)::az [] X.env:=by rfl)(hpl:(cq pos (az [] X.env)).any (·.1)=false:=by rfl):PD K X (.Call (.Name "any" p) [e] [] pos) (dCB (quD λbs=>bs.any id) t):=aXd (cZ7 hK hc) eXa hg hm dQn ha (by decide) (by decide) he hpl
end
def ixD:R2D:=λd e S Q=>match d,e with
 |.str z,.int i=>z.length<=sizeLine/\∃c,atI z.cps.toList i=some c/\Q (.str ⟨#[c]⟩) S
 |d,.int i=>∃xs v,sqIs S d xs/\atI xs i=some v/\Q v S
 |_,_=>False
theorem fQk{M:Am}{H:Hp}{ds:List D}{xs:List V}(l:RepL K M H ds xs){i:Int}{d:D}(h:atI ds i=some d):∃v,atI xs i=some v/\RepV K M H d v:=by
 unfold atI at h ⊢;rw[l.length];cases hi:ixN ds.length i with
 |none=>rw[hi] at h;cases h
 |some j=>rw[hi] at h;exact l.get h
theorem fQl:OpD K (rIx K) ixD:=by
 intro F S H d e x y Q QD r hd he h c;have seq:∀i,e=.int i->(∃xs v,sqIs S d xs/\atI xs i=some v/\QD v S)->rIx K x y H Q:=by
  rintro i rfl ⟨xs,v,h1,h2,q⟩;obtain⟨a,us,rfl,sq,l⟩:=h1.sq r hd;obtain⟨u,e1,j⟩:=fQk l h2;rw[rint he];rcases sq with sq|sq
  ·exact .inl ⟨a,us,i,u,rfl,rfl,sq,e1,c.here r j q⟩
  ·exact .inr (.inl ⟨a,us,i,u,rfl,rfl,sq,e1,c.here r j q⟩)
 cases e with
 |int i =>
  cases d with
  |str z =>
   obtain⟨h1,w,h2,q⟩:=h;rw[rstr hd,rint he];exact .inr (.inr ⟨z,i,w,rfl,rfl,h1,h2,c.str r q⟩)
  |_=>exact seq i rfl h
 |_=>cases d <;> exact h.elim
theorem dXj(hK:X.K=K:=by rfl):IxR X (rIx K):=hK▸eZ3
theorem e_ix(ha:PD K X a ta)(hb:PD K X b tb)(hs:PlainIx b:=by exact λ_ _=>rfl)(hK:X.K=K:=by rfl):PD K X (.Subscript a b pos) (dOp ixD ta tb):=.of (pe_ix (dXj hK) ha.o hb.o hs) (cJm fQl)
abbrev OD:=Gm->Sto->(Option Int->Sto->Prop)->Prop
def upO(K:Fg)(t:OD):TO:=fun σ H Q=>∃F S Γ QD,Rp K F S H/\RepG K (mt S F) H Γ σ/\t Γ S QD/\∀o H' S',Ext S H S' H'->Rp K F S' H'->QD o S'->Q o H'
theorem upO.el{K:Fg}{t:OD}{σ:St}{H:Hp}{Q:Option Int->Hp->Prop}{p:Prop}(h:upO K t σ H Q)(k:∀F S Γ QD,Rp K F S H->RepG K (mt S F) H Γ σ->t Γ S QD->(∀o H' S',Ext S H S' H'->Rp K F S' H'->QD o S'->Q o H')->p):p:=by
 obtain⟨F,S,Γ,QD,h0,h1,h2,j⟩:=h;exact k F S Γ QD h0 h1 h2 j
structure POD(K:Fg)(X:Cx)(e:Option Expr)(t:OD):Prop where
 o:PO X e (upO K t)
def bXm:OD:=λ_ S Q=>Q none S
def fQm(t:ED):OD:=fun Γ S Q=>t Γ S λd S1=>∃i,d=.int i/\Q (some i) S1
theorem aJv:POD K X none bXm:=⟨λpins s σ H Q I j=>j.el λF S Γ QD r g q c=>dZk pins s σ H Q I (c none H S (Ext.refl _ _) r q)⟩
theorem aXe(h:PD K X a ta):POD K X (some a) (fQm ta):=⟨λpins s σ H Q I B=>B.el λF S Γ QD r g q c=>dZl h.o pins s σ H Q I ⟨F,S,Γ,_,r,g,q,λv d H1 N D J v1 j=>by
 obtain⟨i,e,L⟩:=j;subst e;exact⟨i,rint v1,c _ _ _ D J L⟩⟩⟩
def cutD(xs:List D)(lo hi:Option Int):List D:=(xs.drop (HT.sIx xs.length 0 lo)).take (HT.sIx xs.length xs.length hi-HT.sIx xs.length 0 lo)
def slD(b:Bool)(d:D)(lo hi:Option Int)(S:Sto)(Q:DK):Prop:=match d with
 |.str z=>z.length<=1000000/\Q (.str (cutS z lo hi)) S
 |.tup xs=>Q (.tup (cutD xs lo hi)) S
 |d=>∃xs,lsIs S d xs/\newL b (cutD xs lo hi) S Q
def rSlA(K:Fg):V->Option Int->Option Int->Hp->VK->Prop:=λx lo hi H Q=>rSlS x lo hi H Q\/rSlT K x lo hi H Q\/rSlW K x lo hi H Q\/rSlL K x lo hi H Q
theorem sl_A(hK:X.K=K:=by rfl):SlR X (rSlA K):=sl_str.or ((dZv hK).or ((dXh hK).or (cJg hK)))
theorem cJr(xs:List D){lo hi:Option Int}(h0:HT.sIx xs.length 0 lo=0)(h1:HT.sIx xs.length xs.length hi=xs.length):cutD xs lo hi=xs:=by unfold cutD;rw[h0,h1];simp
theorem dQz{M:Am}{H:Hp}{ds:List D}{xs:List V}(l:RepL K M H ds xs)(lo hi:Option Int):RepL K M H (cutD ds lo hi) (cutV xs lo hi):=by
 unfold cutD cutV;rw[l.length];exact(l.drop _).take _
theorem sd_A{b:Bool}:∀F S H d x lo hi Q QD,Rp K F S H->RepV K (mt S F) H d x->slD b d lo hi S QD->Cn K F S H QD Q->rSlA K x lo hi H Q:=by
 intro F S H d x lo hi Q QD r hd h c;have lists:(∃xs,lsIs S d xs/\newL b (cutD xs lo hi) S QD)->rSlA K x lo hi H Q:=by
  rintro⟨xs,D,q⟩;obtain⟨a,us,rfl,s1,j⟩:=lsIs.sl r hd D;exact .inr (.inr (.inr ⟨a,us,rfl,s1,λp B=>c.new r B (dQz j lo hi) q⟩))
 cases d with
 |str z=>rw[rstr hd];exact .inl ⟨z,rfl,h.1,c.str r h.2⟩
 |tup xs =>
  obtain⟨a,us,rfl,s1,j⟩:=tup.st hd
  by_cases hw:HT.sIx us.length 0 lo=0/\HT.sIx us.length us.length hi=us.length
  ·refine .inr (.inr (.inl ⟨a,us,rfl,s1,hw.1,hw.2,c.here r hd ?_⟩));rw[j.length] at hw;have h':QD (.tup (cutD xs lo hi)) S:=h;rwa [cJr xs hw.1 hw.2] at h'
  ·exact .inr (.inl ⟨a,us,rfl,s1,hw,λp B=>c.tup r B (dQz j lo hi) h⟩)
 |_=>exact lists h
def dSl(b:Bool)(te:ED)(tl th:OD):ED:=fun Γ S Q=>te Γ S λd S1=>tl Γ S1 λlo S2=>th Γ S2 λhi S3=>slD b d lo hi S3 Q
theorem e_sl{b:Bool}{e:Expr}{te:ED}{lo hi:Option Expr}{tl th:OD}{p2 pos:Pos}(he:PD K X e te)(hl:POD K X lo tl)(hu:POD K X hi th)(hK:X.K=K:=by rfl):PD K X (.Subscript e (.Slice lo hi none p2) pos) (dSl b te tl th):=.of (cJ8 (sl_A hK) he.o hl.o hu.o) fun σ H Q J=>J.el λF S Γ QD r g q c =>
 ⟨F,S,Γ,_,r,g,q,λv d H1 S1 B O v1 q1=>⟨F,S1,Γ,_,O,g.ext B,q1,λl H2 S2 j N Z=>⟨F,S2,Γ,_,N,g.ext (B.trans j),Z,λu H3 S3 D L Y=>sd_A F S3 H3 d v l u Q QD L (v1.ext (j.trans D)) Y (Cn.shift c (B.trans (j.trans D)))⟩⟩⟩
end
end L2
set_option maxHeartbeats 4000000
namespace L2
open PySem PySem.Spec PyProof.Rows
section
variable{X:Cx}{K:Fg}{a b:Expr}{ta tb:ED}{pos:Pos}{k:Nat}
abbrev GD:=D->Gm->Sto->(Gm->Sto->Prop)->Prop
abbrev GsD:=List D->Gm->Sto->(Gm->Sto->Prop)->Prop
def upG(K:Fg)(t:GD):TG:=λv σ H Q=>∃F S Γ d QD,Rp K F S H/\RepG K (mt S F) H Γ σ/\RepV K (mt S F) H d v/\t d Γ S QD/\∀Γ' S' σ' H',Ext S H S' H'->Rp K F S' H'->RepG K (mt S' F) H' Γ' σ'->QD Γ' S'->Q σ' H'
theorem upG.el{K:Fg}{t:GD}{v:V}{σ:St}{H:Hp}{Q:St->Hp->Prop}{p:Prop}(h:upG K t v σ H Q)(k:∀F S Γ d QD,Rp K F S H->RepG K (mt S F) H Γ σ->RepV K (mt S F) H d v->t d Γ S QD->(∀Γ' S' σ' H',Ext S H S' H'->Rp K F S' H'->RepG K (mt S' F) H' Γ' σ'->QD Γ' S'->Q σ' H')->p):p:=by
 obtain⟨F,S,Γ,d,QD,h0,h1,h2,B,j⟩:=h;exact k F S Γ d QD h0 h1 h2 B j
def upGs(K:Fg)(t:GsD):TGs:=λvs σ H Q=>∃F S Γ ds QD,Rp K F S H/\RepG K (mt S F) H Γ σ/\RepL K (mt S F) H ds vs/\t ds Γ S QD/\∀Γ' S' σ' H',Ext S H S' H'->Rp K F S' H'->RepG K (mt S' F) H' Γ' σ'->QD Γ' S'->Q σ' H'
theorem upGs.el{K:Fg}{t:GsD}{vs:List V}{σ:St}{H:Hp}{Q:St->Hp->Prop}{p:Prop}(h:upGs K t vs σ H Q)(k:∀F S Γ ds QD,Rp K F S H->RepG K (mt S F) H Γ σ->RepL K (mt S F) H ds vs->t ds Γ S QD->(∀Γ' S' σ' H',Ext S H S' H'->Rp K F S' H'->RepG K (mt S' F) H' Γ' σ'->QD Γ' S'->Q σ' H')->p):p:=by
 obtain⟨F,S,Γ,ds,QD,h0,h1,h2,B,j⟩:=h;exact k F S Γ ds QD h0 h1 h2 B j
structure PGD(K:Fg)(X:Cx)(e:Expr)(t:GD):Prop where
 o:PG X e (upG K t)
structure PGsD(K:Fg)(X:Cx)(es:List Expr)(t:GsD):Prop where
 o:PGs X es (upGs K t)
theorem PGD.of{e:Expr}{te:TG}{t:GD}(h:PG X e te)(i:∀v σ H Q,upG K t v σ H Q->te v σ H Q):PGD K X e t:=⟨λpins s σ H v u Q I r q=>h pins s σ H v u Q I r (i v σ H Q q)⟩
theorem PGsD.of{e:List Expr}{te:TGs}{t:GsD}(h:PGs X e te)(i:∀v σ H Q,upGs K t v σ H Q->te v σ H Q):PGsD K X e t:=⟨λpins s σ H v u Q I r q=>h pins s σ H v u Q I r (i v σ H Q q)⟩
def aZg(i:Nat):GD:=λd Γ S Q=>Q (Γ.set i (some d)) S
theorem aQw{i:Nat}{x:Str}(hN:X.N.Nodup)(hi:X.N[i]?=some x)(hx:Loc X.env.scope x)(hf:X.fn x=true\/X.env.scope.names.lookup x=some .local:=by first|exact .inl rfl|exact .inr rfl|assumption):PGD K X (.Name x pos) (aZg i) :=
 .of (aQe hN hi hx hf) λv σ H Q j=>j.el λF S Γ d QD r g B q c=>c _ S _ H (Ext.refl _ _) r (g.set B i) q
def fQn:GsD:=λds Γ S Q=>ds=[]/\Q Γ S
def eXc(t:GD)(u:GsD):GsD:=λds Γ S Q=>match ds with
 |[]=>False
 |d::r=>t d Γ S fun Γ' S'=>u r Γ' S' Q
def dXk(n:Nat)(t:GsD):GD:=λd Γ S Q=>match d with
 |.tup ds=>ds.length=n/\t ds Γ S Q
 |_=>False
theorem bQs:PGsD K X [] fQn:=.of dZd λv σ H Q j=>by
 obtain⟨F,S,Γ,ds,QD,r,g,l,⟨e,q⟩,c⟩:=j;subst e;unfold RepL at l;exact⟨l,c _ S _ H (Ext.refl _ _) r g q⟩
theorem aZ6{e:Expr}{es:List Expr}{t:GD}{u:GsD}(h1:PGD K X e t)(h2:PGsD K X es u)(ha:(eB (e::es) X.env).map (·.2)=i7 e X.env::(eB es X.env).map (·.2):=by rfl):PGsD K X (e::es) (eXc t u) :=
 .of (cJ0 h1.o h2.o ha) λvs σ H Q B=>B.el λF S Γ ds QD r g l q c=>by
  cases ds with
  |nil=>exact q.elim
  |cons d ds =>
   unfold RepL at l;obtain⟨v,vs,rfl,J,l⟩:=l;exact⟨v,vs,rfl,F,S,Γ,d,_,r,g,J,q,fun Γ1 Y σ1 H1 j L g1 N=>⟨F,Y,Γ1,ds,_,L,g1,l.ext j,N,fun Γ2 O σ2 H2 D=>c Γ2 O σ2 H2 (j.trans D)⟩⟩
theorem bJc{es:List Expr}{kk:Nat}{t:GsD}{n:Nat}(hc:X.calm=true)(h:PGsD K X es t)(hK:X.K=K:=by rfl)
  (hn:(eB es X.env).length=n:=by rfl) (hst:(eB es X.env).findIdx? (·.1)=none:=by rfl):PGD K X (.Tuple es kk pos) (dXk n t) :=
 .of (eQi hc h.o hn hst) λv σ H Q j=>j.el λF S Γ d QD r g B q c=>by
  cases d with
  |tup ds =>
   obtain⟨p,us,rfl,sq,l⟩:=tup.st B;exact⟨p,us,rfl,by rw[hK];exact sq,by rw[l.length];exact q.1,F,S,Γ,ds,_,r,g,l,q.2,c⟩
  |_=>exact q.elim
def setD(o i v:D)(S:Sto)(Q:Sto->Prop):Prop:=match o,i with
 |.ref p,.int k=>∃xs j,S p=some (.lst xs)/\ixN xs.length k=some j/\Q (supd S p (.lst (xs.set j v)))
 |_,_=>False
def gdSub(to ti:ED):GD:=λv Γ S Q=>to Γ S λo S1=>ti Γ S1 λi S2=>setD o i v S2 λS3=>Q Γ S3
theorem bQd{o i:Expr}{to ti:ED}(ho:PD K X o to)(hi:PD K X i ti)
  (ha:∀ v,i7 (.Subscript o i pos) X.env v=(do
   let ov <- ft [v] (eval o X.env)
   let iv <- ft [v,ov] (eval i X.env)
   fF pos
   ft [v,ov,iv] (setItem ov iv v)
   release [v,ov,iv] []):=by intro _;rfl):PGD K X (.Subscript o i pos) (gdSub to ti) :=
 .of (eQj ho.o hi.o cJ9 ha) λv σ H Q z0=>z0.el λF S Γ d QD r g rv q c =>
  ⟨F,S,Γ,_,r,g,q,λov od H1 S1 L r1 v1 q1=>⟨F,S1,Γ,_,r1,g.ext L,q1,λiv id H2 Y J Z v2 O=>by
   have N:=v1.ext J;cases od with
   |ref p =>
    cases id with
    |int kk =>
     obtain⟨xs,j,hS,hj,q3⟩:=O;obtain⟨us,hH,l⟩:=Z.obj p _ hS;rw[rref N,rint v2];have B:Y p≠none:=by rw[hS];exact λz=>by cases z
     have D:Ext Y H2 (supd Y p (.lst (xs.set j d))) (upd H2 p (.lst (us.set j v))):=Ext.write B;refine⟨p,us,kk,j,rfl,rfl,hH,by rw[l.length];exact hj,?_⟩
     refine c Γ _ σ _ (L.trans (J.trans D)) (Z.write B ⟨_,aQ9,?_⟩) (g.ext (L.trans (J.trans D))) q3;exact RepL.set (rv.ext (L.trans (J.trans D))) j (l.ext D)
    |_=>exact O.elim
   |_=>exact O.elim⟩⟩
def fQo:SD:=λE Γ S=>E.nx Γ S
def dSeq(t u:SD):SD:=λE Γ S=>t {E with nx:=u E} Γ S
def dAsg(te:ED)(g:GD):SD:=λE Γ S=>te Γ S λd S1=>g d Γ S1 E.nx
def fQp(te:ED):SD:=λE Γ S=>te Γ S λ_ S1=>E.nx Γ S1
def dRet(te:ED):SD:=λE Γ S=>te Γ S E.rt
def dIfS(c:TD)(t u:SD):SD:=λE Γ S=>c Γ S λb S1=>if b=true then t E Γ S1 else u E Γ S1
section
variable{st:Stmt}{rest:List Stmt}{t u:SD}
theorem aQt:PSsD K X [] fQo:=.of dZa λB σ H j=>j.el λF S Γ E r g q c=>c.nx Γ S σ H (Ext.refl _ _) r g q
theorem aQ2(h1:PSD K X st t)(h2:PSsD K X rest u):PSsD K X (st::rest) (dSeq t u):=.of (bJ1 h1.o h2.o) λN σ H j=>j.el λF S Γ E r g q c =>
 ⟨F,S,Γ,{E with nx:=u E},r,g,q,fun Γ1 L σ1 H1 B D g1 J=>⟨F,L,Γ1,E,D,g1,J,c.ext B⟩,c.rt,c.bk,c.ct⟩
theorem aQ4(h1:PSD K X st t):PSsD K X [st] t:=⟨dZb h1.o⟩
theorem aXj{tg e:Expr}{te:ED}{g:GD}(he:PD K X e te)(hg:PGD K X tg g)(hs:swapsWithSole [tg] e pos.line X.env=pure false:=by rfl)(hw:swappedStores [tg] e X.env=pure none:=by rfl)
  (h1:(eB [tg] X.env).map (·.2)=[i7 tg X.env]:=by rfl):PSD K X (.Assign [tg] e pos) (dAsg te g):=.of (eQk he.o hg.o hs hw h1) λY σ H B=>B.el λF S Γ E r g q c =>
 ⟨F,S,Γ,_,r,g,q,λv d H1 O j J v1 L=>⟨F,O,Γ,d,_,J,g.ext j,v1,L,fun Γ2 N σ2 H2 D=>c.nx Γ2 N σ2 H2 (j.trans D)⟩⟩
theorem eXd{te:ED}{i:Nat}:∀D' σ H,upS K (dAsg te (aZg i)) D' σ H->tAsg (upE K te) (cXz i) D' σ H:=λD' σ H B=>B.el λF S Γ E r g q c =>
 ⟨F,S,Γ,_,r,g,q,λv d H1 L j D v1 J=>c.nx _ L _ H1 j D ((g.ext j).set v1 i) J⟩
theorem aQb{i:Nat}{x:Str}{e:Expr}{te:ED}{pos':Pos}(hN:X.N.Nodup)(hi:X.N[i]?=some x)(hx:Loc X.env.scope x)(he:PD K X e te)(hs:swapsWith e (some (.Name x pos')) pos.line X.env=pure false:=by rfl)(hf:X.fn x=true\/X.env.scope.names.lookup x=some .local:=by first|exact .inl rfl|exact .inr rfl|assumption) :
  PSD K X (.Assign [.Name x pos'] e pos) (dAsg te (aZg i)):=.of (eQl hN hi hx he.o hs hf) eXd
theorem aXu{e:Expr}{te:ED}(he:PD K X e te)(hs:swapsWith e none pos.line X.env=pure false:=by rfl):PSD K X (.Expr e pos) (fQp te):=.of (dZc he.o hs) λN σ H B=>B.el λF S Γ E r g q c =>
 ⟨F,S,Γ,_,r,g,q,λv d H1 L j D v1 J=>c.nx Γ L σ H1 j D (g.ext j) J⟩
theorem aQl{e:Expr}{te:ED}(he:PD K X e te):PSD K X (.Return (some e) pos) (dRet te):=.of (eQh he.o) λN σ H j=>j.el λF S Γ E r g q c =>
 ⟨F,S,Γ,_,r,g,q,λv d H1 L B D v1 J=>c.rt v d H1 L B D v1 J⟩
theorem aZz{c:Expr}{sa sb:List Stmt}{tc:TD}(hc:PTD K X c tc)(ha:PSsD K X sa t)(hb:PSsD K X sb u):PSD K X (.If c sa sb pos) (dIfS tc t u):=.of (eJu hc.o ha.o hb.o) λN σ H L=>L.el λF S Γ E r g q c =>
 ⟨F,S,Γ,_,r,g,q,λz H1 J j B D=>by
  cases z with
  |true=>exact⟨F,J,Γ,E,B,g.ext j,D,c.ext j⟩
  |false=>exact⟨F,J,Γ,E,B,g.ext j,D,c.ext j⟩⟩
def eXe(c:TD)(tb:SD):SD:=λE Γ S=>∃W:Nat->Gm->Sto->Prop,(∃m,W m Γ S)/\∀m Γ S,W m Γ S ->
 c Γ S λb S1=>if b=true then tb {E with nx:=fun Γ' S'=>∃m',m'<m/\W m' Γ' S',ct:=fun Γ' S'=>∃m',m'<m/\W m' Γ' S',bk:=E.nx} Γ S1 else E.nx Γ S1
theorem cJs{c:Expr}{body:List Stmt}{tc:TD}{tb:SD}(hp:PassesOwn (aB X.prog X.w) X.A X.env X.xe)(hc:PTD K X c tc)(hb:PSsD K X body tb):PSD K X (.While c body [] pos) (eXe tc tb):=.of (cJ1 hp hc.o hb.o) λD' σ H ⟨F,S,Γ,E,r,g,⟨W,⟨m0,w0⟩,turn⟩,c⟩ =>
 ⟨λm σ' H'=>∃ S' Γ',Ext S H S' H'/\Rp K F S' H'/\RepG K (mt S' F) H' Γ' σ'/\W m Γ' S',⟨m0,S,Γ,Ext.refl _ _,r,g,w0⟩,λm σ1 H1 ⟨Z,Γ1,J,r1,g1,w1⟩ =>
  ⟨F,Z,Γ1,_,r1,g1,turn m Γ1 Z w1,λz H2 Y D N O=>by
   cases z with
   |false=>exact c.nx Γ1 Y σ1 H2 (J.trans D) N (g1.ext D) O
   |true =>
    refine⟨fun σ' H'=>∃j,j<m/\∃S' Γ',Ext S H S' H'/\Rp K F S' H'/\RepG K (mt S' F) H' Γ' σ'/\W j Γ' S',fun σ' H' ⟨j,h1,h2⟩=>⟨j,h1,h2⟩,F,Y,Γ1,_,N,g1.ext D,O,?_,λv d H' S' B=>c.rt v d H' S' (J.trans (D.trans B)),fun Γ' S' σ' H' B=>c.nx Γ' S' σ' H' (J.trans (D.trans B)),?_⟩
    ·exact fun Γ' S' σ' H' B L g3 ⟨j,h1,h2⟩=>⟨j,h1,S',Γ',J.trans (D.trans B),L,g3,h2⟩
    ·exact fun Γ' S' σ' H' B L g3 ⟨j,h1,h2⟩=>⟨j,h1,S',Γ',J.trans (D.trans B),L,g3,h2⟩⟩⟩
end
def FE(F:Am)(H:Hp)(F2:Am):Prop:=∀a,F2 a->F a\/H a=none
theorem FE.refl(F:Am)(H:Hp):FE F H F:=λ_ h=>.inl h
structure ExtW(F:Am)(S:Sto)(H:Hp)(S':Sto)(H':Hp):Prop where
 keep:∀a o,¬ mt S F a->H a=some o->H' a=some o
 new:∀a,S' a≠none->S a≠none\/H a=none
theorem Ext.w{F:Am}{S S':Sto}{H H':Hp}(x:Ext S H S' H'):ExtW F S H S' H':=⟨λa o h e=>x.keep a o (ba λn=>h (.inl n)) e,x.new⟩
theorem ExtW.kpF{F F2:Am}{S S':Sto}{H H':Hp}(x:ExtW F S H S' H')(f:FE F H F2):Keep (mt S F) H (mt S' F2) H':=⟨x.keep,λa h e=>λz=>by
 rcases z with z|z
 ·rcases x.new a z with y|y
  ·exact h (.inl y)
  ·exact e y
 ·rcases f a z with y|y
  ·exact h (.inr y)
  ·exact e y⟩
structure ItOk(K:Fg)(F:Am)(S:Sto)(H:Hp)(J:It)(xs:List D)(G:Sto->Prop):Prop where
 go:∀F2,FE F H F2->∀S2 H2,ExtW F S H S2 H2->Rp K F2 S2 H2->G S2->∀i d,xs[i]?=some d->J.go i H2/\∀x H3,J.yld i H2 x H3->Ext S2 H2 S2 H3/\Rp K F2 S2 H3/\RepV K (mt S2 F2) H3 d x
 stop:∀F2,FE F H F2->∀S2 H2,ExtW F S H S2 H2->Rp K F2 S2 H2->G S2->J.stop xs.length H2
abbrev IDk:=List D->(Sto->Prop)->Sto->Prop
abbrev ID:=Gm->Sto->IDk->Prop
def upI(K:Fg)(t:ID):TI:=fun σ H R=>∃F S Γ QD,Rp K F S H/\RepG K (mt S F) H Γ σ/\t Γ S QD/\∀J xs G H' S',Ext S H S' H'->Rp K F S' H'->ItOk K F S' H' J xs G->QD xs G S'->R J H'
theorem upI.el{K:Fg}{t:ID}{σ:St}{H:Hp}{R:It->Hp->Prop}{p:Prop}(h:upI K t σ H R)(k:∀F S Γ QD,Rp K F S H->RepG K (mt S F) H Γ σ->t Γ S QD->(∀J xs G H' S',Ext S H S' H'->Rp K F S' H'->ItOk K F S' H' J xs G->QD xs G S'->R J H')->p):p:=by
 obtain⟨F,S,Γ,QD,h0,h1,h2,j⟩:=h;exact k F S Γ QD h0 h1 h2 j
structure PID(K:Fg)(X:Cx)(tg e:Expr)(t:ID):Prop where
 o:PI X tg e (upI K t)
theorem PID.of{tg e:Expr}{te:TI}{t:ID}(h:PI X tg e te)(i:∀σ H Q,upI K t σ H Q->te σ H Q):PID K X tg e t:=⟨λpins s σ H Q I q=>h pins s σ H Q I (i σ H Q q)⟩
def iSq(K:Fg)(tl:TE):TI:=fun σ H R=>tl σ H λx H1=>(∃a,x=.ref a/\(∃xs,SqL K H1 a xs)/\R (Itl K a) H1)\/∃a,x=.ref a/\(∃xs,SqT K H1 a xs)/\R (Itt K a) H1
theorem fQq{tg l:Expr}{tl:TE}(hl:PE X l tl)(hK:X.K=K:=by rfl):PI X tg l (iSq K tl):=by
 subst hK;intro pins s σ H R I h;refine thn (hl pins s σ H _ I h) λv s1 ⟨x,H1,j,r1,L⟩=>?_;have D:∀b∈[s1.heap.objs.size],FpOk X pins H1 b:=λb O=>by
  have e:b=s1.heap.objs.size:=by simpa using O
  subst e;exact j.fpOk (Nat.le_refl _) (j.hok.fresh (Nat.le_refl _))
 rcases L with⟨a,e,⟨xs,B⟩,q⟩|⟨a,e,⟨xs,B⟩,q⟩
 ·subst e;cases r1;obtain⟨its,J,p,N⟩:=j.list B;exact iw p.isList ⟨s1.heap.objs.size,[s1.heap.objs.size],_,_,H1,rfl,j.kept (t':=s1.toks) λb o e=>af _ e,cQj a _,⟨_,aq _ rfl,rfl,rfl⟩,D,q⟩
 ·subst e;cases r1;obtain⟨its,J,p,N⟩:=j.tuple B;exact eR (show s1.heap.IsTuple a its.toArray from p) ⟨s1.heap.objs.size,[s1.heap.objs.size],_,_,H1,rfl,j.kept (t':=s1.toks) λb o e=>af _ e,bJv a _,⟨_,aq _ rfl,rfl,rfl⟩,D,q⟩
def eXf(d:D)(xs:List D):Sto->Prop:=match d with
 |.ref a=>λS=>S a=some (.lst xs)
 |_=>λ_=>True
def dSq(te:ED):ID:=fun Γ S Q=>te Γ S λd S1=>∃xs,sqIs S1 d xs/\Q xs (eXf d xs) S1
theorem dXl{F:Am}{S:Sto}{H:Hp}{p:Addr}{xs:List D}{us:List V}{G:Sto->Prop}(t:TupAt K (mt S F) H p us)(l:RepL K (mt S F) H xs us):ItOk K F S H (Itt K p) xs G where
 go:=λN f L H2 x j _ i d hd=>by
  have t2:=(t.keep (x.kpF f)).sq;obtain⟨v,e1,J⟩:=l.get hd;refine⟨⟨us,v,t2,e1⟩,λy O ⟨e2,B⟩=>?_⟩;subst e2
  have:=B us t2
  rw[e1] at this;cases this;exact⟨Ext.refl _ _,j,J.keep (x.kpF f)⟩
 stop:=λN f L H2 x j _=>⟨us,(t.keep (x.kpF f)).sq,by rw[l.length];exact Nat.le_refl _⟩
theorem dXm{F:Am}{S:Sto}{H:Hp}{p:Addr}{xs:List D}{us:List V}{G:Sto->Prop}(t:LstAt K (mt S F) H p us)(l:RepL K (mt S F) H xs us):ItOk K F S H (Itl K p) xs G where
 go:=λN f L H2 x j _ i d hd=>by
  obtain⟨v,e1,J⟩:=l.get hd;have t2:SqL K H2 p us:=(t.keep (x.kpF f)).sq;refine⟨⟨us,v,t2,e1⟩,λy O ⟨e2,B⟩=>?_⟩;subst e2
  have:=B us t2
  rw[e1] at this;cases this;exact⟨Ext.refl _ _,j,J.keep (x.kpF f)⟩
 stop:=λN f L H2 x j _=>⟨us,(t.keep (x.kpF f)).sq,by rw[l.length];exact Nat.le_refl _⟩
theorem dXn{F:Am}{S:Sto}{H:Hp}{p:Addr}{xs:List D}:ItOk K F S H (Itl K p) xs (eXf (.ref p) xs) where
 go:=λY f O H2 x j J i d hd=>by
  obtain⟨us,B,l⟩:=j.obj p _ J;obtain⟨v,e1,N⟩:=l.get hd;refine⟨⟨us,v,SqL.of B,e1⟩,λy Z ⟨e2,L⟩=>?_⟩;subst e2
  have:=L us (SqL.of B)
  rw[e1] at this;cases this;exact⟨Ext.refl _ _,j,N⟩
 stop:=λY f O H2 x j J=>by
  obtain⟨us,B,l⟩:=j.obj p _ J;exact⟨us,SqL.of B,by rw[l.length];exact Nat.le_refl _⟩
theorem aZ0{tg l:Expr}{tl:ED}(hl:PD K X l tl)(hK:X.K=K:=by rfl):PID K X tg l (dSq tl):=.of (fQq hl.o hK) fun σ H Q L=>L.el λF S Γ QD r g q c =>
 ⟨F,S,Γ,_,r,g,q,λv d H1 O B j v1 J=>by
  obtain⟨xs,hs,D⟩:=J;cases d with
  |tup ys =>
   cases hs;unfold RepV at v1;obtain⟨p,us,rfl,t,l⟩:=v1;exact .inr ⟨p,rfl,⟨us,t.sq⟩,c _ _ _ _ _ B j (dXl t l) D⟩
  |lst ys =>
   cases hs;unfold RepV at v1;obtain⟨p,us,rfl,t,l⟩:=v1;exact .inl ⟨p,rfl,⟨us,t.sq⟩,c _ _ _ _ _ B j (dXm t l) D⟩
  |ref p =>
   rw[rref v1];obtain⟨us,N,l⟩:=j.obj p _ hs;exact .inl ⟨p,rfl,⟨us,SqL.of N⟩,c _ _ _ _ _ B j dXn D⟩
  |_=>exact hs.elim⟩
def rngD(lo:Int):Nat->List D
 |0=>[]
 |n+1=>.int lo::rngD (lo+1) n
theorem aX6:∀(n:Nat) (lo:Int),(rngD lo n).length=n
 |0,_=>rfl
 |n+1,lo=>by simp[rngD,aX6 n]
theorem aJg:∀(n:Nat) (lo:Int) (i:Nat) (d:D),(rngD lo n)[i]?=some d->i<n/\d=.int (lo+i)
 |0,lo,i,d,h=>by simp[rngD] at h
 |n+1,lo,0,d,h=>by simp[rngD] at h;exact⟨by lia,by rw[<- h];simp⟩
 |n+1,lo,i+1,d,h=>by
  have h':(rngD (lo+1) n)[i]?=some d:=by simpa [rngD] using h
  obtain⟨h1,h2⟩:=aJg n (lo+1) i d h';refine⟨by lia,?_⟩
  rw[h2]
  congr 1
  rw[Int.natCast_add];lia
theorem dXo{F:Am}{S:Sto}{H:Hp}{lo:Int}{n:Nat}{G:Sto->Prop}:ItOk K F S H (Itr lo n) (rngD lo n) G where
 go:=λJ f D H2 x j _ i d hd=>by
  obtain⟨h1,rfl⟩:=aJg n lo i d hd;exact⟨h1,λy L ⟨e2,B⟩=>by subst e2;subst B;exact⟨Ext.refl _ _,j,by unfold RepV;rfl⟩⟩
 stop:=λJ f D H2 x j _=>by rw[aX6];exact Nat.le_refl n
def fQr(ta:AD):ID:=fun Γ S Q=>ta Γ S λds S1=>match ds with
 |[.int j]=>(-(2^62)<=j/\j<2^62)/\Q (rngD 0 j.toNat) (λ_=>True) S1
 |_=>False
theorem aXk{tg:Expr}{p:Pos}{ta:AD}(hg:Gl X "range")(hm:X.mg "range"=none)(ha:PAD K X [a] ta)(hs:az [a] X.env=[(false,eval a X.env)]:=by rfl):PID K X tg (.Call (.Name "range" p) [a] [] pos) (fQr ta):=.of (cQk hg hm ha.o hs) fun σ H Q D=>D.el λF S Γ QD r g q c =>
 ⟨F,S,Γ,_,r,g,q,λvs ds H1 O J N v1 B=>by
  match ds,B with
  |[.int j],B =>
   obtain⟨v,rfl,L⟩:=v1.one;rw[rint L];exact⟨j,rfl,B.1.1,B.1.2,c _ _ _ _ _ J N dXo B.2⟩⟩
def cJt(x:Str):List D:=x.cps.toList.map λc=>.str ⟨#[c]⟩
def forD(g:GD)(tb:SD)(G:Sto->Prop)(E:EndsD):List D->Gm->Sto->Prop
 |[],Γ,S=>G S/\E.nx Γ S
 |x::xs,Γ,S=>G S/\g x Γ S fun Γ2 S2=>tb {E with nx:=forD g tb G E xs,ct:=forD g tb G E xs,bk:=E.nx} Γ2 S2
def dFor(wi:ID)(g:GD)(tb:SD):SD:=λE Γ S=>wi Γ S λxs G S1=>forD g tb G E xs Γ S1
theorem aX0{α:Type}{xs:List α}{i:Nat}(h:i<xs.length):xs.drop i=xs[i]::xs.drop (i+1):=cv h
theorem bQe{tg iter:Expr}{body:List Stmt}{wi:ID}{g:GD}{tb:SD}(hp:PassesOwn (aB X.prog X.w) X.A X.env X.xe)(hc:X.calm=true)(hi:PID K X tg iter wi)(hg:PGD K X tg g)(hb:PSsD K X body tb)(hs:∀x,cH iter X.env x=pure x:=by intro _;rfl):PSD K X (.For tg iter body [] pos) (dFor wi g tb):=.of (eQn hp hc hi.o hg.o hb.o hs) λD' σ H z0=>z0.el λF S Γ E r gm q c =>
 ⟨F,S,Γ,_,r,gm,q,λJ xs G H1 S1 x1 r1 it q1=>by
  refine⟨λi m σ' H'=>m=xs.length-i/\i<=xs.length/\∃S' Γ',Ext S1 H1 S' H'/\Rp K F S' H'/\RepG K (mt S' F) H' Γ' σ'/\forD g tb G E (xs.drop i) Γ' S',⟨xs.length,by simp,Nat.zero_le _,S1,Γ,Ext.refl _ _,r1,gm.ext x1,by simpa using q1⟩,?_⟩
  rintro i m σ' H' ⟨rfl,hi.o,S',Γ',Z,r2,g2,f2⟩
  by_cases N:i<xs.length
  ·rw[aX0 N] at f2;obtain⟨hG,f2⟩:=f2;obtain⟨hgo,hy⟩:=it.go F (FE.refl F H1) S' H' Z.w r2 hG i xs[i] (ag N);refine .inr ⟨hgo,fun σ'' D=>∃B Γ'',Ext S1 H1 B D/\Rp K F B D/\RepG K (mt B F) D Γ'' σ''/\forD g tb G E (xs.drop (i+1)) Γ'' B,fun σ'' D z=>⟨xs.length-(i+1),by lia,rfl,N,z⟩,λx H3 y3=>?_⟩
   obtain⟨x3,r3,v3⟩:=hy x H3 y3;refine⟨F,S',Γ',xs[i],_,r3,g2.ext x3,v3,f2,fun Γ4 S4 σ4 H4 x4 r4 g4 q4=>⟨F,S4,Γ4,_,r4,g4,q4,?_⟩⟩;have j:=Z.trans (x3.trans x4);exact⟨fun Γ5 O σ5 Y L r5 g5 q5=>⟨O,Γ5,j.trans L,r5,g5,q5⟩,λv d Y O L=>c.rt v d Y O (x1.trans (j.trans L)),fun Γ5 O σ5 Y L=>c.nx Γ5 O σ5 Y (x1.trans (j.trans L)),fun Γ5 O σ5 Y L r5 g5 q5=>⟨O,Γ5,j.trans L,r5,g5,q5⟩⟩
  ·have e:i=xs.length:=by lia
   subst e;rw[eE] at f2;exact .inl ⟨it.stop F (FE.refl F H1) S' H' Z.w r2 f2.1,c.nx Γ' S' σ' H' (x1.trans Z) r2 g2 f2.2⟩⟩
end
end L2
set_option maxHeartbeats 1000000
namespace L2
open PySem PySem.Spec PyProof.Rows
section
variable{X:Cx}{K:Fg}{pos:Pos}{k:Nat}
structure ExtX(D':Addr)(S:Sto)(H:Hp)(S':Sto)(H':Hp):Prop where
 keep:∀a o,a≠D'->S a=none->H a=some o->H' a=some o
 live:∀a,H a≠none->H' a≠none
 new:∀a,S' a≠none->S a≠none\/H a=none
theorem Ext.x{D':Addr}{S S':Sto}{H H':Hp}(x:Ext S H S' H'):ExtX D' S H S' H':=⟨λa o _=>x.keep a o,x.live,x.new⟩
theorem ExtX.trans{D':Addr}{S S1 S2:Sto}{H H1 H2:Hp}(x:ExtX D' S H S1 H1)(y:ExtX D' S1 H1 S2 H2):ExtX D' S H S2 H2 :=
  ⟨λa o n h h' => y.keep a o n (by
      cases e:S1 a with
      |none =>rfl
      | some z => rcases x.new a (by rw [e]; exact λz => by cases z) with z | z
                  · exact absurd h z
                  · rw [h'] at z; cases z) (x.keep a o n h h'),λa h =>y.live a (x.live a h),λa h =>by
    rcases y.new a h with z|z
    · exact x.new a z
    · exact .inr (ba λn =>x.live a n z)⟩
theorem ExtX.kp{D':Addr}{F:Am}{S S':Sto}{H H':Hp}(x:ExtX D' S H S' H')(hF:F D'):Keep (mt S F) H (mt S' F) H':=⟨λa o h e=>x.keep a o (by rintro rfl;exact h (.inr hF)) (ba λn=>h (.inl n)) e,λa h e=>λz=>by
 rcases z with z|z
 ·rcases x.new a z with y|y
  ·exact h (.inl y)
  ·exact e y
 ·exact h (.inr z)⟩
theorem ExtX.w{D':Addr}{F:Am}{S S':Sto}{H H':Hp}(x:ExtX D' S H S' H')(hF:F D'):ExtW F S H S' H':=⟨λa o h e=>x.keep a o (by rintro rfl;exact h (.inr hF)) (ba λn=>h (.inl n)) e,x.new⟩
def Free(L:List Nat)(σ:St):Prop:=∀i∈L,σ[i]?=some none
abbrev BD:=Gm->Sto->List D->(List D->Sto->Prop)->Prop
def bJd(K:Fg)(L:List Nat)(tv:Addr->TB)(td:BD):Prop:=∀D' F S H Γ σ acc zs N QD,Free L σ->F D'->Rp K F S H->RepG K (mt S F) H Γ σ->H D'=some (.lst zs)->RepL K (mt S F) H acc zs->td Γ S acc QD ->
 (∀acc' S' H' zs',ExtX D' S H S' H'->Rp K F S' H'->H' D'=some (.lst zs')->RepL K (mt S' F) H' acc' zs'->QD acc' S'->N H')->tv D' σ H N
def aJ9(te:ED):BD:=fun Γ S acc Q=>te Γ S λy S1=>acc.length<sizeLine/\Q (acc++[y]) S1
theorem aQj{L:List Nat}{te:ED}:bJd K L (λD'=>eZ9 D' (upE K te)) (aJ9 te):=by
 intro D' F S H Γ σ acc zs N QD _ j r g hH l q c;refine⟨F,S,Γ,_,r,g,q,λv d H1 B D J v1 ⟨Z,Y⟩=>?_⟩;have hS:S D'=none:=(r.frm D' j).2;have O:B D'=none:=(J.frm D' j).2;have h1:H1 D'=some (.lst zs):=D.keep _ _ hS hH;have y:ExtX D' B H1 B (upd H1 D' (.lst (zs++[v]))):=⟨λa o n _ e=>by rw[upd_ne n];exact e,λa h=>by
  by_cases e:a=D'
  ·subst e;rw[aQ9];exact λz=>by cases z
  ·rw[upd_ne e];exact h,λa h=>.inl h⟩
 refine⟨zs,h1,by rw[l.length];exact Z,c _ B _ (zs++[v]) (D.x.trans y) ?_ aQ9 ?_ Y⟩
 ·exact⟨λa o e=>(J.obj a o e).keep (y.kp j) (upd_ne (by rintro rfl;rw[O] at e;cases e)),λa h=>by
   obtain⟨⟨ys,e,ct⟩,h2⟩:=J.frm a h
   by_cases z:a=D'
   ·subst z;exact⟨⟨_,aQ9,trivial⟩,h2⟩
   ·exact⟨⟨ys,by rw[upd_ne z];exact e,ct⟩,h2⟩⟩
 ·exact RepL.app ((l.ext D).keep (y.kp j)) (RepL.cons (v1.keep (y.kp j)) RepL.nil)
def CG(K:Fg)(L L':List Nat)(g:TG)(gd:GD):Prop:=∀F S H Γ σ d v Q QD,Free L σ->Rp K F S H->RepG K (mt S F) H Γ σ->RepV K (mt S F) H d v->gd d Γ S QD->(∀Γ' S' σ' H',Ext S H S' H'->Rp K F S' H'->RepG K (mt S' F) H' Γ' σ'->Wk σ σ'->Free L' σ'->QD Γ' S'->Q σ' H')->g v σ H Q
theorem Free.set{L:List Nat}{σ:St}{i:Nat}{v:V}(h:Free (i::L) σ)(hi:i∉L):Free L (σ.set i (some v)):=λj B=>by
 rw[fb (by rintro rfl;exact hi B)]
 exact h j (ay _ B)
theorem cg_name{L:List Nat}{i:Nat}(hi:i∉L:=by decide):CG K (i::L) L (cXz i) (aZg i):=λF S H Γ σ d v Q QD f r g j q c=>c _ S _ H (Ext.refl _ _) r (g.set j i) (fQ7 (f i au)) (f.set hi) q
def aZ7(g:GD)(tt:TD)(tb:BD)(G:Sto->Prop)(Γ0:Gm):List D->List D->Sto->(List D->Sto->Prop)->Prop
 |[],acc,S,Q=>G S/\Q acc S
 |x::xs,acc,S,Q=>G S/\g x Γ0 S fun Γ2 S2=>tt Γ2 S2 λb S3=>if b=true then tb Γ2 S3 acc λacc' S4=>aZ7 g tt tb G Γ0 xs acc' S4 Q else aZ7 g tt tb G Γ0 xs acc S3 Q
theorem dXp{L L':List Nat}{g:TG}{gd:GD}{tt:TD}{tv:Addr->TB}{tb:BD}(hg:CG K L L' g gd)(hb:bJd K L' tv tb){D':Addr}{F:Am}{S:Sto}{H:Hp}{Γ:Gm}{σ:St}{acc:List D}{zs:List V}{N:Hp->Prop}{QD:List D->Sto->Prop}{J:It}{xs:List D}{G:Sto->Prop}
  (f:Free L σ) (hF:F D') (r:Rp K F S H) (gm:RepG K (mt S F) H Γ σ) (hH:H D'=some (.lst zs)) (l:RepL K (mt S F) H acc zs) (it:∀S2 H2,ExtX D' S H S2 H2->Rp K F S2 H2->G S2->(∀i d,xs[i]?=some d->J.go i H2/\∀x H3,J.yld i H2 x H3->Ext S2 H2 S2 H3/\Rp K F S2 H3/\RepV K (mt S2 F) H3 d x)/\J.stop xs.length H2)
  (q:aZ7 gd tt tb G Γ xs acc S QD) (c:∀acc' S' H' zs',ExtX D' S H S' H'->Rp K F S' H'->H' D'=some (.lst zs')->RepL K (mt S' F) H' acc' zs'->QD acc' S'->N H'):bX9 J σ g (upT K tt) (tv D') N H:=by
 refine⟨λi m H'=>m=xs.length-i/\i<=xs.length/\∃S' acc' zs',ExtX D' S H S' H'/\Rp K F S' H'/\H' D'=some (.lst zs')/\RepL K (mt S' F) H' acc' zs'/\aZ7 gd tt tb G Γ (xs.drop i) acc' S' QD,⟨xs.length,by simp,Nat.zero_le _,S,acc,zs,(Ext.refl _ _).x,r,hH,l,by simpa using q⟩,?_⟩
 rintro i m H' ⟨rfl,hi,S',acc',zs',x2,r2,h2,l2,f2⟩;have g2:=gm.keep (x2.kp hF)
 by_cases hlt:i<xs.length
 ·rw[aX0 hlt] at f2;obtain⟨hG,f2⟩:=f2;obtain⟨hgo,hy⟩:=(it S' H' x2 r2 hG).1 i xs[i] (ag hlt);refine .inr ⟨hgo,λB=>∃O j Y,ExtX D' S H O B/\Rp K F O B/\B D'=some (.lst Y)/\RepL K (mt O F) B j Y/\aZ7 gd tt tb G Γ (xs.drop (i+1)) j O QD,λB z=>⟨xs.length-(i+1),by omega,rfl,hlt,z⟩,λx H3 y3=>?_⟩
  obtain⟨x3,r3,v3⟩:=hy x H3 y3;refine hg F S' H3 Γ σ xs[i] x _ _ f r3 (g2.ext x3) v3 f2 fun Γ4 S4 σ4 H4 x4 r4 g4 wk fr4 q4=>⟨wk,F,S4,Γ4,_,r4,g4,q4,λz H5 S5 x5 r5 q5=>?_⟩;have Z:=x3.trans (x4.trans x5);have h5:H5 D'=some (.lst zs'):=Z.keep _ _ (r2.frm D' hF).2 h2;have l5:=l2.ext Z;have x05:ExtX D' S H S5 H5:=x2.trans Z.x;cases z with
  |false=>exact⟨S5,acc',zs',x05,r5,h5,l5,q5⟩
  |true=>exact hb D' F S5 H5 Γ4 σ4 acc' zs' _ _ fr4 hF r5 (g4.ext x5) h5 l5 q5 λacc6 S6 H6 zs6 x6 r6 h6 l6 q6=>⟨S6,acc6,zs6,x05.trans x6,r6,h6,l6,q6⟩
 ·have e:i=xs.length:=by omega
  subst e;rw[eE] at f2;exact .inl ⟨(it S' H' x2 r2 f2.1).2,c acc' S' H' zs' x2 r2 h2 l2 f2.2⟩
def eXg(wi:ID)(g:GD)(tt:TD)(tb:BD):BD:=fun Γ S acc Q=>wi Γ S λxs G S1=>aZ7 g tt tb G Γ xs acc S1 Q
def cZo(is:List (Option Nat))(Γ:Gm):Gm:=is.map λo=>o.bind λi=>(Γ[i]?).join
theorem RepG.at{M:Am}{H:Hp}:∀{g:Gm}{σ:St}{i:Nat}{d:D},RepG K M H g σ->g[i]?=some (some d)->∃v,σ[i]?=some (some v)/\RepV K M H d v
 |[],_,_,_,_,e=>by simp at e
 |none::g,_,0,_,_,e=>by simp at e
 |some d::g,_,0,e,⟨v,τ,rfl,q,r⟩,h=>by simp at h;subst h;exact⟨v,rfl,q⟩
 |none::g,_,i+1,d,⟨v,τ,rfl,r⟩,h=>by
  obtain⟨u,e1,h1⟩:=RepG.at (i:=i) r (by simpa using h)
  exact⟨u,by simpa using e1,h1⟩
 |some _::g,_,i+1,d,⟨v,τ,rfl,q,r⟩,h=>by
  obtain⟨u,e1,h1⟩:=RepG.at (i:=i) r (by simpa using h)
  exact⟨u,by simpa using e1,h1⟩
theorem RepG.capt{M:Am}{H:Hp}{g:Gm}{σ:St}(h:RepG K M H g σ):∀is:List (Option Nat),RepG K M H (cZo is g) (capt is σ)
 |[]=>rfl
 |o::is=>by
  have j:=RepG.capt h is;cases o with
  |none=>exact⟨_,_,rfl,j⟩
  |some i =>
   show RepG K M H ((g[i]?).join::cZo is g) ((σ[i]?).join::L2.capt is σ);cases e:g[i]? with
   |none=>exact⟨_,_,rfl,j⟩
   |some z =>
    cases z with
    |none=>exact⟨_,_,rfl,j⟩
    |some d =>
     obtain⟨v,e1,r⟩:=h.at e;rw[e1];exact⟨v,_,rfl,r,j⟩
def eXh(b:Bool)(is:List (Option Nat))(wi:ID)(g:GD)(tt:TD)(tb:BD):ED:=fun Γ S Q=>wi Γ S λxs G S1=>aZ7 g tt tb G (cZo is Γ) xs [] S1 λacc S2=>newL b acc S2 Q
theorem dXq{b:Bool}{L L':List Nat}{is:List (Option Nat)}{wi:ID}{g:TG}{gd:GD}{tt:TD}{tv:Addr->TB}{tb:BD}(hL:∀σ,Free L (capt is σ))(hg:CG K L L' g gd)(hb:bJd K L' tv tb):∀σ H Q,upE K (eXh b is wi gd tt tb) σ H Q->cQy is (upI K wi) g (upT K tt) tv σ H Q:=fun σ H Q z0=>z0.el λF S Γ QD r gm q c =>
 ⟨F,S,Γ,_,r,gm,q,λJ xs G H1 D x1 r1 it q1 D' B=>by
  have Y:D D'=none:=r1.sn B;have fe:FE F H1 (λa=>F a\/a=D'):=λa h=>h.elim .inl λe=>.inr (by rw[e];exact B)
  have nF:¬ F D':=λh=>by
   obtain⟨⟨ys,e,_⟩,_⟩:=r1.frm D' h;rw[B] at e;cases e
  have xe:Ext D H1 D (upd H1 D' (.lst [])):=Ext.same (aX5 B);have kp:Keep (mt D F) H1 (mt D λa=>F a\/a=D') (upd H1 D' (.lst [])):=xe.w.kpF fe;have r2:Rp K (λa=>F a\/a=D') D (upd H1 D' (.lst [])):=⟨λa o e=>(r1.obj a o e).keep kp (upd_ne (by rintro rfl;rw[Y] at e;cases e)),λa h=>by
   rcases h with h|h
   ·obtain⟨⟨ys,e,ct⟩,h2⟩:=r1.frm a h;exact⟨⟨ys,by rw[upd_ne (by rintro rfl;rw[B] at e;cases e)];exact e,ct⟩,h2⟩
   ·subst h;exact⟨⟨_,aQ9,trivial⟩,Y⟩⟩
  have old:∀ {N H2},ExtX D' D (upd H1 D' (.lst [])) N H2->Ext D H1 N H2:=λ{N H2} y=>⟨λa o h e=>y.keep a o (by rintro rfl;rw[B] at e;cases e) h (by rw[upd_ne (by rintro rfl;rw[B] at e;cases e)];exact e),λa h=>y.live a (xe.live a h),λa h=>by
   rcases y.new a h with z|z
   ·exact .inl z
   ·by_cases e:a=D'
    ·subst e;exact .inr B
    ·rw[upd_ne e] at z;exact .inr z⟩
  refine dXp hg hb (hL σ) (F:=λa=>F a\/a=D') (.inr rfl) r2 ((gm.ext x1).keep kp |>.capt is) aQ9 RepL.nil (λN H2 y r2 hG=>⟨it.go _ fe N H2 (old y).w r2 hG,it.stop _ fe N H2 (old y).w r2 hG⟩) q1 λj S' H' O y r3 h3 l3 q3=>?_
  have less:Keep (mt S' λa=>F a\/a=D') H' (mt S' F) H':=⟨λ_ _ _ e=>e,λa h _=>λz=>h (z.elim .inl λw=>.inr (.inl w))⟩;have x3:=old y;have Z:S' D'=none:=(r3.frm D' (.inr rfl)).2;have r4:Rp K F S' H':=⟨λa o e=>(r3.obj a o e).keep less rfl,λa h=>r3.frm a (.inl h)⟩;have nm:¬ mt S' F D':=λz=>z.elim (λw=>w Z) nF;cases b with
  |false =>
   refine c (.ref D') (.lst j) H' S' (x1.trans x3) r4 ?_ q3;unfold RepV;exact⟨D',O,rfl,.inl ⟨nm,.inl h3⟩,l3.keep less⟩
  |true =>
   have x5:Ext D H1 (supd S' D' (.lst j)) H':=⟨x3.keep,x3.live,λa h=>by
    by_cases e:a=D'
    ·subst e;exact .inr B
    ·rw[aQg e] at h;exact x3.new a h⟩
   have k6:Keep (mt S' λa=>F a\/a=D') H' (mt (supd S' D' (.lst j)) F) H':=⟨λ_ _ _ e=>e,λa h _=>λz=>by
    rcases z with z|z
    ·by_cases e:a=D'
     ·exact h (.inr (.inr e))
     ·rw[aQg e] at z;exact h (.inl z)
    ·exact h (.inr (.inl z))⟩
   refine c (.ref D') (.ref D') H' (supd S' D' (.lst j)) (x1.trans x5) ⟨λa o e=>?_,λa h=>⟨(r4.frm a h).1,?_⟩⟩ (by unfold RepV;rfl) (q3 D' Z)
   ·by_cases e1:a=D'
    ·subst e1;rw[aQ7] at e;cases e;exact⟨O,h3,l3.keep k6⟩
    ·rw[aQg e1] at e;exact(r3.obj a o e).keep k6 rfl
   ·rw[aQg (by rintro rfl;exact nF h)];exact(r4.frm a h).2⟩
def dYes:TD:=λ_ S Q=>Q true S
theorem aQo:PTs X [] (upT K dYes):=λpins s σ H Q I j=>j.el λF S Γ QD r g q c=>dZp pins s σ H Q I (c true H S (Ext.refl _ _) r q)
theorem aQh{L:List Nat}{is:List (Option Nat)}(h:(L.all λi=>decide (is[i]?=some none))=true):∀σ,Free L (capt is σ):=fun σ i hi=>by
 have:=of_decide_eq_true (b8.mp h i hi)
 unfold capt;rw[aK,this]
 rfl
theorem aX1{c:Expr}{t:TD}(h:PTD K X c t):PTs X [c] (upT K t):=dZq h.o
end
end L2
set_option maxHeartbeats 4000000
namespace L2
open PySem PySem.Spec PyProof.Rows
section
variable{prog:aE}{w:aQ}{s:ah}
def Col(prog:aE)(w:aQ)(s:ah)(v:ad)(Pv:List ad->Prop):Prop:=∀(A:aW) (E:ad->ah->Prop) (R:List ad->ah->Prop),A.handled=none ->
 (∀vals h' d tk,Pv vals->(∀b o,s.heap.get? b=some o->h'.get? b=some o)->R vals {s with heap:=h',drawn:=d,toks:=tk})->aF (aB prog w) A (collect v) R E s
theorem cZp{a:Addr}{T:String}{o:Obj}{its:List ad}{n:Nat}(hT:T="list"\/T="tuple")(ho:s.heap.get? a=some o)(hc:o.cls=.type T)(hd:o.data=.seq its.toArray n)(hz:its.length<=sizeLine):Col prog w s (.ref a) (·=its):=λA E R _ h =>
 wpAny_collect_seq a hT ho hc hd (λh' k=>by
  have:=h its h' s.drawn s.toks rfl k
  simpa using this) (by simpa using hz)
theorem cJu{a:Addr}{vs:List (Key×ad)}(lo:(a==e9)=false)(hd:s.heap.DictOf (aQd prog w) a vs)(hz:vs.length<=sizeLine):Col prog w s (.ref a) (λvals=>vals.length=vs.length/\∀(j:Nat) (v:ad),vals[j]?=some v->∃(k:Key) (x:ad),vs[j]?=some (k,x)/\bQi k v=true):=λA E R hh h=>by
 obtain⟨ep,D⟩:=hd.dictAt;refine PySem.W.kdu_collect (PySem.W.kdl_dict (knd:=aQd prog w) (kvs:=vs) (ep:=ep) lo) hh D hz λh' J acc L B=>?_;exact h acc.toList h' s.drawn J ⟨by rw[aH];exact B.1,λj v e=>B.2 j v (by rw[<- aU];exact e)⟩ L
theorem aXv{A:aW}{E:ad->ah->Prop}{v:ad}{Pv:List ad->Prop}{Q:ad->ah->Prop}(hh:A.handled=none)(col:Col prog w s v Pv)(hz:∀vals,Pv vals->vals.length<=sizeLine)
  (srt:∀(vals:List ad) (h1:aX) (d:Drawn) (tk:Nat),Pv vals->(∀b o,s.heap.get? b=some o->h1.get? b=some o)->aF (aB prog w) A.in1.in1 (bU.«list.sort» ⟨[.ref h1.objs.size],[]⟩) (λfin s'=>fin=.done (.ret .none)/\Q (.ref h1.objs.size) s') E {s with heap:=h1.push (b7 "list" vals.toArray 0),drawn:=d,toks:=tk}) :
  aF (aB prog w) A (call (.builtin "sorted") [v]) Q E s:=by
 refine io kind_sorted plain_sorted entry_sorted (args_sorted1 _) ?_;unfold bU.«sorted»;refine aa (m:=checkCount "sorted" 1 1 _) (ae ?_);refine aa (col A.in1 _ _ (by simp[hh]) λvals h1 d tk pv kp=>?_)
 refine aa (wpAny_newList ?_ (hz vals pv));have j:(h1.push (b7 "list" vals.toArray 0)).get? h1.objs.size=some (b7 "list" vals.toArray 0):=aq _ rfl;refine aa (bb (cD slot_list_sort ⟨_,j,rfl⟩ entry_list_sort ?body (args_list_sort _)))
 case body =>
  refine cj (srt vals h1 d tk pv kp) (λfin s' ⟨e,q⟩=>?_) λ_ _ e=>e;subst e;exact⟨_,rfl,ae ⟨_,rfl,q⟩⟩
theorem aJw{h:aX}{a:Addr}{vs:List ad}{n:Nat}{out:Array ad}(ho:h.get? a=some (b7 "list" vs.toArray n)):(∃c,(gw h a vs out).get? a=some (b7 "list" out c))/\∀b o,b≠a->h.get? b=some o->(gw h a vs out).get? b=some o:=by
 unfold gw;obtain⟨e1,j⟩:∃e1,(h.update a (bD λ_=>(#[]:Array ad))).get? a=some (b7 "list" #[] e1):=⟨_,d8 ho λ_=>#[]⟩;have D:=cF h a (bD λ_=>(#[]:Array ad));have k2:∀b o,(h.update a (bD λ_=>(#[]:Array ad))).get? b=some o->(((h.update a (bD λ_=>(#[]:Array ad))).push (b7 "tuple" vs.toArray 0)).push (b7 "list" #[] 0)).get? b=some o:=λb o e=>af _ (af _ e);refine⟨⟨_,d8 (k2 _ _ j) λ_=>out⟩,λb o B e=>?_⟩;have s2:=cF (((h.update a (bD λ_=>(#[]:Array ad))).push (b7 "tuple" vs.toArray 0)).push (b7 "list" #[] 0)) a (bD λ_=>out);exact(s2.2 b B).trans (k2 b o ((D.2 b B).trans e))
theorem cZq{A:aW}{E:ad->ah->Prop}{a:Addr}{vs:List ad}{ss:List Str}{n:Nat}{P:iW->ah->Prop}(ho:s.heap.get? a=some (b7 "list" vs.toArray n))(hS:je vs ss)(h64:vs.length<=sizeLine)
  (h:∀(out:List ad) (ss':List Str) (h':aX) (c:Nat),je out ss'->ss'.Perm ss->sortedS ss'=true->h'.get? a=some (b7 "list" out.toArray c)->(∀b o,b≠a->s.heap.get? b=some o->h'.get? b=some o)->P (.done (.ret .none)) {s with heap:=h'}) :
  aF (aB prog w) A (bU.«list.sort» ⟨[.ref a],[]⟩) P E s:=by
 refine SF.treeK strKind_oneLt ho hS.keysOf (λD B rest e=>keyKind_strs (by rw[<- e];exact hS)) h64 λj J hs=>?_
 obtain⟨ss',h1,h2,O⟩:=sorted_out_str hS J hs;obtain⟨⟨c,N⟩,L⟩:=aJw (out:=(aO j).map (·.2)) ho;exact h _ ss' _ c h1 h2 O (by rw[N]) L
theorem cZr{A:aW}{E:ad->ah->Prop}{a:Addr}{vs:List ad}{ns:List Int}{n:Nat}{P:iW->ah->Prop}(ho:s.heap.get? a=some (b7 "list" vs.toArray n))(hI:gC vs ns)(h64:vs.length<=sizeLine)
  (h:∀(out:List ad) (ns':List Int) (h':aX) (c:Nat),gC out ns'->ns'.Perm ns->ns'.Pairwise (·<=·)->h'.get? a=some (b7 "list" out.toArray c)->(∀b o,b≠a->s.heap.get? b=some o->h'.get? b=some o)->P (.done (.ret .none)) {s with heap:=h'}) :
  aF (aB prog w) A (bU.«list.sort» ⟨[.ref a],[]⟩) P E s:=by
 refine SF.treeI ho hI h64 λout ns' h1 h2 D=>?_;obtain⟨⟨c,B⟩,j⟩:=aJw (out:=out) ho;exact h _ ns' _ c h1 h2 D (by rw[B]) j
end
section
variable{X:Cx}{K:Fg}
def Src(K:Fg)(H:Hp)(x:V)(us:List V):Prop:=∃a,x=.ref a/\(SqL K H a us\/SqT K H a us\/∃kvs:List (Key×V),H a=some (.dK kvs)/\us=kvs.map λp=>kV p.1)
theorem bZu:∀{kvs:List (Key×V)}{vs:List (Key×ad)}{vals:List ad},KV kvs vs->vals.length=vs.length->(∀(j:Nat) (v:ad),vals[j]?=some v->∃(k:Key) (x:ad),vs[j]?=some (k,x)/\bQi k v=true)->Vals (kvs.map λp=>kV p.1) vals
 |[],_,vals,.nil,hl,_=>by cases vals with
  |nil=>exact .nil
  |cons _ _=>simp at hl
 |p::kvs,_,vals,.cons (b:=q) J D,hl,h=>by
  cases vals with
  |nil=>simp at hl
  |cons v vals =>
   refine .cons ?_ (bZu D (by simpa using hl) λj v e=>by simpa using h (j+1) v (by simpa using e))
   obtain⟨k,x,e,L⟩:=h 0 v rfl;have N:q=(k,x):=by simpa using e
   have B:p.1=k:=by rw[J.1,N]
   show RelV (kV p.1) v;rw[B];rcases aQc L with⟨i,t,rfl,rfl⟩|⟨y,t,rfl,rfl⟩
   ·exact⟨t,rfl⟩
   ·exact⟨t,rfl⟩
theorem Inv.toks{pins:List (Addr×Obj)}{σ:St}{H:Hp}{s:ah}(I:Inv X pins σ H s){h':aX}(k:∀b o,s.heap.get? b=some o->h'.get? b=some o)(d:Drawn)(tk:Nat):Inv X pins σ H {s with heap:=h',drawn:=d,toks:=tk}:=(I.kept (t':=tk) k).drawn d
theorem Inv.src{pins:List (Addr×Obj)}{σ:St}{H:Hp}{s:ah}(I:Inv X pins σ H s)(hK:X.K=K){x:V}{u:ad}{us:List V}(h:Src K H x us)(r:RelV x u):Col X.prog X.w s u (λvals=>Vals us vals)/\us.length<=sizeLine:=by
 subst hK;obtain⟨a,rfl,h⟩:=h;cases r;rcases h with h|h|⟨J,h,rfl⟩
 ·obtain⟨its,B,⟨o,n,L,N,_,hd⟩,D⟩:=I.list h;have hl:=B.length;exact⟨λA E R hh q=>cZp (.inl rfl) L N hd (by lia) A E R hh λvals h' d j e k=>q vals h' d j (by rw[e];exact B) k,D⟩
 ·obtain⟨its,B,⟨o,L,N,n,hd⟩,D⟩:=I.tuple h;have hl:=B.length;exact⟨λA E R hh q=>cZp (.inr rfl) L N hd (by lia) A E R hh λvals h' d j e k=>q vals h' d j (by rw[e];exact B) k,D⟩
 ·obtain⟨D,lo,vs,O,hd⟩:=I.hok a _ h;have hl:J.length=vs.length:=dW O;exact⟨λA E R hh q=>cJu lo hd (by lia) A E R hh λvals h' d j e k=>q vals h' d j (bZu O e.1 e.2) k,by rw[ak];exact D⟩
def eXi(K:Fg):List V->Hp->VK->Prop:=λxs H Q=>∃(x:V) (ss:List Str),xs=[x]/\Src K H x (ss.map V.str)/\∀(p:Addr) (out:List Str),H p=none->out.Perm ss->out.Pairwise (λa b=>HT.ltS b a=false)->Q (.ref p) (upd H p (.lst (out.map V.str)))
theorem bQf:∀{l:List Str},sortedS l=true->l.Pairwise λa b=>HT.ltS b a=false
 |[],_=>.nil
 |[x],_=>bY _ _
 |x::y::l,h=>by
  have h':(!ltCps y.cps.toList x.cps.toList&&risingS y l)=true:=h;rw[bL] at h';have L:=bQf (l:=y::l) h'.2;have D:HT.ltS y x=false:=by
   have:=h'.1
   rw[dg,ltCps_eq] at this;exact this
  refine a8.mpr ⟨λz J=>?_,L⟩;rcases aM.mp J with rfl|J
  ·exact D
  ·have j:=(a8.mp L).1 z J;cases e:HT.ltS z x with
   |false=>rfl
   |true =>
    by_cases B:y=x
    ·subst B;rw[j] at e;cases e
    ·have:=HT.ltS_tot D B
     have:=HT.ltS_tr e this
     rw[j] at this;cases this
theorem cZs(hK:X.K=K:=by rfl)(hc:X.calm=true:=by rfl):CallR X (.builtin "sorted") (eXi K):=by
 intro pins s σ H xs us Q I r h;obtain⟨x,ss,rfl,hs,q⟩:=h;obtain⟨u,rfl,L⟩:=aXb r;obtain⟨col,B⟩:=I.src hK hs L;have len:∀{vals:List ad},Vals (ss.map V.str) vals->vals.length=ss.length:=λv=>by have:=v.length;simpa using this.symm
 refine aXv (I.ok.hd hc) col (λvals v=>by rw[len v];simpa using B) λvals h1 d j pv kp=>?_
 have J:H h1.objs.size=none:=(I.toks kp d j).hok.fresh (Nat.le_refl _);refine cZq (s:={ s with heap:=h1.push (b7 "list" vals.toArray 0),drawn:=d,toks:=j }) (aq _ rfl) (cZf (H:=H) (ds:=ss) (xs:=ss.map V.str) (by
  clear B q hs col L pv len
  induction ss with
  |nil=>exact .nil
  |cons a ss N=>exact .cons rfl N) pv) (by rw[len pv];simpa using B) λout D h' c a1 a2 Z Y O=>⟨rfl,?_⟩
 have I1:=I.toks kp d j;obtain⟨v1,v2⟩:=bQr (H:=H) a1;refine⟨.ref h1.objs.size,_,I1.laid (a:=h1.objs.size) (o:=.lst (D.map V.str)) (t':=j) (λb o e=>O b o (Nat.ne_of_lt (aA e)) (af _ e)) (Nat.le_refl _) ⟨?_,out,c,v1,Y⟩,rfl,q _ _ J a2 (bQf Z)⟩
 have:=a2.length_eq
 rw[ak,this];simpa using B
def eXj(K:Fg):List V->Hp->VK->Prop:=λxs H Q=>∃(x:V) (ns:List Int),xs=[x]/\Src K H x (ns.map V.int)/\∀(p:Addr) (out:List Int),H p=none->out.Perm ns->out.Pairwise (·<=·)->Q (.ref p) (upd H p (.lst (out.map V.int)))
theorem cZt(hK:X.K=K:=by rfl)(hc:X.calm=true:=by rfl):CallR X (.builtin "sorted") (eXj K):=by
 intro pins s σ H xs us Q I r h;obtain⟨x,ss,rfl,hs,q⟩:=h;obtain⟨u,rfl,L⟩:=aXb r;obtain⟨col,D⟩:=I.src hK hs L;have len:∀{vals:List ad},Vals (ss.map V.int) vals->vals.length=ss.length:=λv=>by have:=v.length;simpa using this.symm
 refine aXv (I.ok.hd hc) col (λvals v=>by rw[len v];simpa using D) λvals h1 d j pv kp=>?_
 have J:H h1.objs.size=none:=(I.toks kp d j).hok.fresh (Nat.le_refl _);refine cZr (s:={s with heap:=h1.push (b7 "list" vals.toArray 0),drawn:=d,toks:=j}) (aq _ rfl) (bQ7 pv) (by rw[len pv];simpa using D) λout B h' c a1 a2 Y O N=>⟨rfl,?_⟩
 have Z:=I.toks kp d j;refine⟨.ref h1.objs.size,_,Z.laid (a:=h1.objs.size) (o:=.lst (B.map V.int)) (t':=j) (λb o e=>N b o (Nat.ne_of_lt (aA e)) (af _ e)) (Nat.le_refl _) ⟨?_,out,c,aJl a1,O⟩,rfl,q _ _ J a2 Y⟩
 have:=a2.length_eq
 rw[ak,this];simpa using D
def eXk(K:Fg):List V->Hp->VK->Prop:=λxs H Q=>∃(x:V) (us:List V) (ds:List (List Str)),xs=[x]/\Src K H x us/\bG (dT K dS H) us ds/\∀(p:Addr) (idx:List Nat),H p=none->idx.Perm (bQ us.length)->(idx.map λi=>ds.getD i []).Pairwise (λa b=>HT.lexS b a=false)->(idx.map λi=>ds.getD i []).Perm ds->Q (.ref p) (upd H p (.lst (idx.map λi=>us.getD i V.non)))
theorem tsOf{pins:List (Addr×Obj)}{σ:St}{H:Hp}{s:ah}(I:Inv X pins σ H s)(hK:X.K=K){h':aX}(k:∀b o,s.heap.get? b=some o->h'.get? b=some o):∀{us:List V}{vs:List ad}{ds:List (List Str)},Vals us vs->bG (dT K dS H) us ds->bG (KS.TS h') vs ds
 |_,_,_,.nil,.nil=>.nil
 |_,_,_,.cons r q,.cons d p=>by
  refine .cons ?_ (tsOf I hK k q p);obtain⟨b,xs,e,j,pp⟩:=d;rw[e] at r;cases r;rw[<- hK] at j;obtain⟨its,B,⟨o,D,z⟩,_⟩:=I.tuple j;exact⟨b,its.toArray,rfl,⟨o,k b o D,z⟩,bQp pp B⟩
theorem bJe{us:List V}{vs:List ad}(p:Vals us vs):∀(idx:List Nat),(∀i∈idx,i<us.length)->Vals (idx.map λi=>us.getD i V.non) (idx.map λi=>vs.getD i cL)
 |[],_=>.nil
 |i::idx,h=>by
  refine .cons ?_ (bJe p idx λj B=>h j (ay _ B));have hi:=h i au;obtain⟨u,e,r⟩:=p.get (ag hi);show RelV (us.getD i V.non) (vs.getD i cL);rw[am,am,e,ag hi];exact r
theorem cZu(hu:X.A.units+8<de)(hK:X.K=K:=by rfl)(hc:X.calm=true:=by rfl):CallR X (.builtin "sorted") (eXk K):=by
 intro pins s σ H xs us Q I r h;obtain⟨x,ys,ds,rfl,hs,O,q⟩:=h;obtain⟨u,rfl,Y⟩:=aXb r;obtain⟨col,hz⟩:=I.src hK hs Y;have hl:ys.length=ds.length:=dW O;refine aXv (I.ok.hd hc) col (λvals v=>by rw[<- v.length];exact hz) λvals h1 d j pv kp=>?_
 have D:=pv.length;have N:=I.toks kp d j;have L:H h1.objs.size=none:=N.hok.fresh (Nat.le_refl _);refine KS.sort_tupsL (s:={s with heap:=h1.push (b7 "list" vals.toArray 0),drawn:=d,toks:=j}) (ds:=ds) (by show X.A.units+1+1<_;lia) (aq _ rfl) (tsOf N hK (λb o e=>af _ e) pv O) (by lia) λidx h' c B i2 i3 g Z=>⟨rfl,?_⟩
 have J:∀i∈idx,i<ys.length:=λi hi=>by have:=cz.mp (B.mem_iff.mp hi);lia
 have il:idx.length=vals.length:=by have:=B.length_eq;simpa using this
 refine⟨.ref h1.objs.size,_,N.laid (a:=h1.objs.size) (o:=.lst (idx.map λi=>ys.getD i V.non)) (t':=j) (λb o e=>Z b o (Nat.ne_of_lt (aA e)) (af _ e)) (Nat.le_refl _) ⟨?_,_,c,bJe pv idx J,g⟩,rfl,q _ idx L (by rw[D];exact B) i2 i3⟩
 rw[ak];lia
end
section
variable{κ:Type}[DecidableEq κ]
def valV(kvs:List (κ×V))(k:κ):Option V:=(kvs.find? λkv=>decide (kv.1=k)).map (·.2)
theorem bQt{p:κ×V}{r:List (κ×V)}{k:κ}(e:p.1=k):valV (p::r) k=some p.2:=by simp[valV,ci,e]
theorem bJf{p:κ×V}{r:List (κ×V)}{k:κ}(e:¬ p.1=k):valV (p::r) k=valV r k:=by simp[valV,ci,e]
theorem RelO.getD{o:Option V}{u:Option ad}{d:V}{d':ad}(r:RelO o u)(rd:RelV d d'):RelV (o.getD d) (u.getD d'):=by
 cases o with
 |none=>cases u with
  |none=>exact rd
  |some _=>exact(show False from r).elim
 |some _=>cases u with
  |none=>exact(show False from r).elim
  |some _=>exact r
theorem KV.val{kvs:List (κ×V)}{vs:List (κ×ad)}(r:KV kvs vs)(k:κ):RelO (valV kvs k) (valueAt vs k):=by
 unfold KV at r
 induction r with
 |nil=>exact True.intro
 |@cons p q ps j h t D =>
  obtain⟨h1,h2⟩:=h
  by_cases e:p.1=k
  ·have B:q.1=k:=h1.symm.trans e;have b:valueAt (q::j) k=some q.2:=by simp[valueAt,ci,B]
   rw[bQt e,b];exact h2
  ·have B:¬ q.1=k:=λz=>e (h1.trans z);have b:valueAt (q::j) k=valueAt j k:=by simp[valueAt,ci,B]
   rw[bJf e,b];exact D
end
theorem cJv{P:aE}{w:aQ}{k:Key}{u:ad}(r:RelV (kV k) u):(aQd P w).is k u=true:=by
 cases k with
 |inl i=>obtain⟨t,e⟩:=(show ∃t,u=iH i t from r);subst e;exact bX5 P w i t
 |inr x=>obtain⟨t,e⟩:=(show ∃t,u=ad.str x t from r);subst e;exact bX6 P w x t
theorem bZv{P:aE}{w:aQ}:∀{ks:List Key}{us:List ad},Vals (ks.map kV) us->ItemsAre (aQd P w) ks us
 |[],_,r=>by rw[eP] at r;cases r;exact .nil
 |k::ks,_,r=>by
  rw[bg] at r;cases r with
  |cons h t=>exact .cons (cJv h) (bZv t)
abbrev KT(H:Hp):List (List Key×V)->List (List Key×Addr×ad)->Prop:=bG λp q=>p.1=q.1/\H q.2.1=some (.tup (p.1.map kV))/\RelV p.2 q.2.2
theorem KT.val{H:Hp}{kvs:List (List Key×V)}{xs:List (List Key×Addr×ad)}(r:KT H kvs xs)(k:List Key):RelO (valV kvs k) ((atKey xs k).map (·.2)):=by
 induction r with
 |nil=>exact True.intro
 |@cons p q ps j h t D =>
  obtain⟨h1,_,h2⟩:=h
  by_cases e:p.1=k
  ·have B:q.1=k:=h1.symm.trans e;have b:atKey (q::j) k=some q.2:=by simp[atKey,ci,B]
   rw[bQt e,b];exact h2
  ·have B:¬ q.1=k:=λz=>e (h1.trans z);have b:atKey (q::j) k=atKey j k:=by simp[atKey,ci,B]
   rw[bJf e,b];exact D
section
variable{P:aE}{w:aQ}{H:Hp}{h:aX}{a:Addr}
theorem eXl{u:HO}(ok:HOk P w H h)(e:Rd H a u):ObjOk P w H h a u:=e.ok ok
theorem cZv{kvs:List (Key×V)}(ok:HOk P w H h)(e:Rd H a (.dK kvs)):kvs.length<=sizeLine/\(a==e9)=false/\∃vs,KV kvs vs/\h.DictOf (aQd P w) a vs :=
 show ObjOk P w H h a (.dK kvs) from eXl ok e
theorem key_of{ks:List Key}(ok:HOk P w H h)(e:H a=some (.tup (ks.map kV))):(tupleKind (aQd P w)).is h ks a:=by
 obtain⟨_,its,r,⟨o,h1,h2,n,j⟩,_⟩:=(show ObjOk P w H h a (.tup (ks.map kV)) from ok a _ e)
 exact⟨o,its.toArray,n,h1,h2,j,by simpa using bZv r⟩
theorem cJw{kvs:List (List Key×V)}(ok:HOk P w H h)(e:Rd H a (.dT kvs)):kvs.length<=sizeLine/\(a==e9)=false /\
  ∃xs,KT H kvs xs/\h.DictOfH (tupleKind (aQd P w)) a xs:=by
 obtain⟨z,y,xs,r,o,es,O,h1,h2,N,L,J⟩:=(show ObjOk P w H h a (.dT kvs) from eXl ok e)
 refine⟨z,y,xs,r,o,es,O,h1,h2,N,L,λx j=>?_,J⟩;have all:∀{l:List (List Key×V)}{m:List (List Key×Addr×ad)},KT H l m->∀x∈m,(tupleKind (aQd P w)).is h x.1 x.2.1:=by
  intro l m q
  induction q with
  |nil=>intro x j;exact nomatch j
  |@cons p q ps Y B t D =>
   intro x j;rcases aM.mp j with e|j
   ·subst e;exact key_of ok (by rw[<- B.1];exact B.2.1)
   ·exact D x j
 exact all r x j
end
def DGet(H:Hp)(a:Addr)(y:V)(r:Option V):Prop :=
 (∃kvs k,Rd H a (.dK kvs)/\y=kV k/\r=valV kvs k)\/∃kvs k b,Rd H a (.dT kvs)/\y=.ref b/\H b=some (.tup (k.map kV))/\r=valV kvs k
section
variable{X:Cx}{pins:List (Addr×Obj)}{σ:St}{H:Hp}{s:ah}{a:Addr}{y v:V}{u r:ad}{o:Option V}{A:aW}{E:ad->ah->Prop}
theorem Inv.big(I:Inv X pins σ H s):e9<s.heap.objs.size:=by
 have h:aS<s.heap.objs.size:=(I.mod.glob.keeps I.bk).lt;exact Nat.lt_trans (by decide) h
theorem cZw{Q:ad->ah->Prop}(hu:A.units+1<de)(I:Inv X pins σ H s)(g:DGet H a y (some v))(ry:RelV y u)(h:∀w' s',Inv X pins σ H s'->RelV v w'->Q w' s') :
  aF (aB X.prog X.w) A (gA (.ref a) u) Q E s:=by
 rcases g with⟨B,k,e,J,l⟩|⟨B,k,b,e,J,N,l⟩
 ·subst J;obtain⟨z,hd,vs,rel,dd⟩:=cZv I.hok e;obtain⟨w',hw,j⟩:=RelO.some_of (v:=v) (o:=valueAt vs k) (by rw[l];exact rel.val k)
  exact wpAny_getItem_of (cJv ry) dd.mapOf hw (h w' _ (I.tok _) j)
 ·subst J;cases (show u=fq b from ry)
  obtain⟨z,hd,xs,rel,dd⟩:=cJw I.hok e;obtain⟨w',hw,j⟩:=RelO.some_of (v:=v) (o:=(atKey xs k).map (·.2)) (by rw[l];exact rel.val k)
  obtain⟨p,L,D⟩:=bB.mp hw;refine wpAny_getItem_heap (tupleKind_room_in1 hu) (key_of I.hok N) dd L ?_;rw[D];exact h w' _ (I.tok _) j
theorem eXm{P:aE}{w:aQ}{H':Hp}{h':aX}{kvs:List (Key×V)}{vs:List (Key×ad)}(z:kvs.length<=sizeLine)(hd:(a==e9)=false)(rel:KV kvs vs)(dd:h'.DictOf (aQd P w) a vs) :
  ObjOk P w H' h' a (.dK kvs):=⟨z,hd,vs,rel,dd⟩
end
def NoSl(i:Expr):Prop:=∀ov iv,subscripted i false ov iv=operate [ov,iv] (gA ov iv)
theorem subD_of{prog:aE}{w:aQ}{A:aW}{E:ad->ah->Prop}{s:ah}{env:Env}{value slice:Expr}{pos:Pos}{T id:String}{Q:ad->ah->Prop}
  (hl:ja (.type T) "__getitem__"=pure (some (.builtin id))) (hs:NoSl slice)
  (h:aF (aB prog w) A (eval value env) (λo s₁=>aF (aB prog w) A (eval slice env) (λi s₂=>s₂.TypeIs o T/\aF (aB prog w) A (gA o i) Q E s₂) E s₁) E s) :
  aF (aB prog w) A (eval (.Subscript value slice pos) env) Q E s:=by
 refine Subscript_ (cj h (λo s₁ J=>cj J (λi s₂ j=>?_) λ_ _ x=>x) λ_ _ x=>x);obtain⟨L,j⟩:=j;unfold subscriptTail;refine aa ?_;rw[getitemInPython_of_ne L.not_modules];refine aa (wpAny_specialOf L hl ?_);have fin:aF (aB prog w) A (subscripted slice false o i) (λr B=>aF (aB prog w) A (letTemporaryGo value o r>>=λ_=>pure r) Q E B) E s₂:=by
  rw[hs o i];exact wpAny_operating (cj j (λr B D=>aa (wpAny_letTemporaryGo (ae D))) λ_ _ x=>x)
 first
  |exact ae (aa fin)
  |exact aa (ae (aa fin))
  |exact aa fin
theorem bXn{X:Cx}{pins:List (Addr×Obj)}{σ:St}{H:Hp}{s:ah}{a:Addr}{y:V}{o:Option V}(I:Inv X pins σ H s)(g:DGet H a y o):s.TypeIs (.ref a) "dict":=by
 rcases g with⟨j,k,e,_,_⟩|⟨j,k,b,e,_,_,_⟩
 ·obtain⟨_,_,vs,_,dd⟩:=cZv I.hok e;exact dd.typeIs
 ·obtain⟨_,_,xs,_,dd⟩:=cJw I.hok e;exact dd.typeIs
def fQs(td ty:TE):TE:=fun σ H Q=>td σ H λx H1=>ty σ H1 λy H2=>∃a v,x=.ref a/\DGet H2 a y (some v)/\Q v H2
section
variable{X:Cx}{o i e value:Expr}{pos pos' tpos:Pos}{td ty tv:TE}
theorem dXr(hu:X.A.units+1<de)(ho:PE X o td)(hi:PE X i ty)(hs:NoSl i):PE X (.Subscript o i pos) (fQs td ty):=by
 intro pins s σ H Q I h;refine subD_of PySem.F.slot_dict_getitem.lookup hs (thn (ho pins s σ H _ I h) λu s1 ⟨x,H1,Y,J,N⟩=>thn (hi pins s1 σ H1 _ Y N) λiv s2 ⟨y,H2,B,D,a,v,ex,g,L⟩=>?_);subst ex;obtain rfl:u=fq a:=J;exact⟨bXn B g,cZw hu B g D λZ s3 O j=>⟨v,H2,O,j,L⟩⟩
end
structure M2(X:Cx)(o:Expr)(m:Str)(apos:Pos)(e f:Expr)(cpos:Pos):Prop where
 base:gD o m X.env (eval o X.env)=eval o X.env
 few:((cq cpos (az [e,f] X.env)).all (λx=>!x.1) && (iK cpos (fN [] X.env)).all (λx=>x.1.isSome)
  && decide (([e,f]:List Expr).length+([]:List gQ).length+(if ([]:List gQ).isEmpty then 0 else 1)<30))=true
 line:(apos.endLine==cpos.line)=true
 trees:cq cpos (az [e,f] X.env)=[(false,eval e X.env),(false,eval f X.env)]
def IsD(H:Hp)(a:Addr):Prop:=(∃kvs,Rd H a (.dK kvs))\/∃kvs,Rd H a (.dT kvs)
theorem eXn{X:Cx}{pins:List (Addr×Obj)}{σ:St}{H:Hp}{s:ah}{a:Addr}(I:Inv X pins σ H s)(d:IsD H a) :
  s.TypeIs (.ref a) "dict"/\(∀b,fq a=.ref b->∃ob,s.heap.get? b=some ob/\ob.dict=none)/\(a==e9)=false:=by
 rcases d with⟨j,e⟩|⟨j,e⟩
 ·obtain⟨_,hd,vs,_,dd⟩:=cZv I.hok e;refine⟨dd.typeIs,λb q=>?_,hd⟩;cases q;obtain⟨ob,_,_,h1,h2,_⟩:=dd;exact⟨ob,h1,h2.2.1⟩
 ·obtain⟨_,hd,xs,_,dd⟩:=cJw I.hok e;refine⟨dd.typeIs,λb q=>?_,hd⟩;cases q;obtain⟨ob,_,_,h1,h2,_⟩:=dd;exact⟨ob,h1,h2.2.1⟩
section
variable{X:Cx}{pins:List (Addr×Obj)}{σ:St}{H:Hp}{s:ah}{a:Addr}{y d:V}{u r:ad}{o:Option V}{A:aW}{E:ad->ah->Prop}
theorem eXo{Q:ad->ah->Prop}(hu:A.units+1<de)(I:Inv X pins σ H s)(g:DGet H a y o)(ry:RelV y u)(rd:RelV d r)(h:∀w' s',Inv X pins σ H s'->RelV (o.getD d) w'->Q w' s') :
  aF (aB X.prog X.w) A (call (.builtin "dict.get") [.ref a,u,r]) Q E s:=by
 rcases g with⟨j,k,e,B,l⟩|⟨j,k,b,e,B,D,l⟩
 ·subst B;obtain⟨z,hd,vs,rel,dd⟩:=cZv I.hok e;refine call_meetsIn e6 dd.typeIs fZ (fP _ _ _) (meets_dict_get_default (aQd X.prog X.w) a (cJv ry) hd r) ⟨_,dd.mapOf,h _ _ (I.tok _) ?_⟩;rw[l];exact(rel.val k).getD rd
 ·subst B;cases (show u=fq b from ry)
  obtain⟨z,hd,xs,rel,dd⟩:=cJw I.hok e;refine call_meetsIn e6 dd.typeIs fZ (fP _ _ _) (meetsH_dict_get_default (tupleKind (aQd X.prog X.w)) a b hd r) ⟨tupleKind_room_in1 hu,k,xs,key_of I.hok D,dd,h _ _ (I.tok _) ?_⟩;rw[l];exact(rel.val k).getD rd
end
section
variable{X:Cx}{K:Fg}{pos:Pos}{k:Nat}
section
variable{elt target iter:Expr}{ifs:List Expr}{gs:List eY}{scope:Scope}{N':List Str}{is:List (Option Nat)}{wi:ID}{g:TG}{gd:GD}{tt:TD}{tv:Addr->TB}{tb:BD}{oc:Option Str}{m:ad->Env->Sem Unit}{b:Bool}
theorem aQp(L L':List Nat)(hcalm:X.calm=true)(hN:X.N.Nodup)
  (hturn:∀it acc env,fg (.ListComp elt (⟨target,iter,ifs,0⟩::gs) scope pos) 0 it acc env=aZa target ifs iter.pos (m acc env) (.compLoop (.ListComp elt (⟨target,iter,ifs,0⟩::gs) scope pos) 0 it acc env) it env)
  (cp:Cap X.N scope N' is) (hL:∀σ,Free L (capt is σ)) (hi:PID K X target iter wi) (hgd:CG K L L' g gd)
  (hg:∀cl C fp s H,PG (aQk X N' scope cl C fp s H oc) target g) (ht:∀cl C fp s H,PTs (aQk X N' scope cl C fp s H oc) ifs (upT K tt)) (hbd:bJd K L' tv tb) (hb:∀cl C fp s H D,PB (aQk X N' scope cl C fp s H oc) (m (.ref D) (iM scope cl C X.env)) (tv D))
  (hcf:∀n acc,fu n scope.names acc=ocl oc n acc:=by intro _ _;rfl) (hpc:∀h,gW h scope.names=ohp oc h:=by intro _;rfl)
  (hkind:scope.kind=.function:=by rfl) (hcell:∀y∈scope.names,y.2=.cell->oc=some y.1:=by decide +kernel)
  (hu:∀y∈scope.names,scope.names.lookup y.1=some y.2:=by decide +kernel) (hoc:∀x,oc=some x->scope.names.lookup x=some .cell:=by intro x h;cases h <;> rfl)
  (hVb:okV scope.names X.env.scope.names=true:=by first|rfl|kernel_rfl)
  (hs:∀x,cH iter X.env x=pure x:=by intro _;rfl) :
  PD K X (.ListComp elt (⟨target,iter,ifs,0⟩::gs) scope pos) (eXh b is wi gd tt tb):=.of (cJe hcalm hN hturn cp hi.o hg ht hb hcf hpc hkind hcell hu hoc hVb hs) (dXq hL hgd hbd)
end
def dCut(t u:SD):SD:=λE Γ S=>∃M:Gm->Sto->Prop,t {E with nx:=M} Γ S/\∀Γ' S',M Γ' S'->u E Γ' S'
theorem cZx{st:Stmt}{rest:List Stmt}{t u:SD}(h1:PSD K X st t)(h2:PSsD K X rest u):PSsD K X (st::rest) (dCut t u):=.of (bJ1 h1.o h2.o) λN σ H ⟨F,S,Γ,E,r,g,⟨M,q,L⟩,c⟩ =>
 ⟨F,S,Γ,{E with nx:=M},r,g,q,fun Γ1 j σ1 H1 B D g1 J=>⟨F,j,Γ1,E,D,g1,L Γ1 j J,c.ext B⟩,c.rt,c.bk,c.ct⟩
abbrev SpD:=List D->Sto->DK->Prop
def spU(K:Fg)(sp:SpD):Sp:=λvs H Q _=>∃F S ds QD,Rp K F S H/\RepL K (mt S F) H ds vs/\sp ds S QD/\Cn K F S H QD Q
theorem aQ8{x:Str}{ps:List Str}{sp:SpD}{p:Pos}{e:Expr}{es:List Expr}{t:AD}(Df':Df X.prog X.w X.K X.mg X.base k x ps (spU K sp))(hr:Room k X.A)(hg:Gl X x)(ha:PAD K X (e::es) t)
  (hdb:(x==("__debug__":Str))=false:=by decide) (he:az (e::es) X.env=(false,eval e X.env)::az es X.env:=by rfl) (hpl:(cq pos (az es X.env)).any (·.1)=false:=by rfl) :
  PD K X (.Call (.Name x p) (e::es) [] pos) (dCB sp t):=.of (cJc Df' hr hg ha.o hdb he hpl) fun σ H Q j=>j.el λF S Γ QD r g q c =>
 ⟨F,S,Γ,_,r,g,q,λvs ds H1 L B D v1 J=>by
  show spU K sp (vs++[]) H1 Q E0;rw[br];exact⟨F,L,ds,QD,D,v1,J,Cn.shift c B⟩⟩
inductive Frz(S S':Sto):D->D->Prop where
 |same (d:D):Frz S S' d d
 |ref {a:Addr}{xs ys:List D}(h:S a=some (.lst xs)) (h':S' a=none) (l:Frz S S' (.tup xs) (.tup ys)):Frz S S' (.ref a) (.lst ys)
 |nil:Frz S S' (.tup []) (.tup [])
 |cons {d e:D}{ds es:List D}(h:Frz S S' d e) (l:Frz S S' (.tup ds) (.tup es)):Frz S S' (.tup (d::ds)) (.tup (e::es))
theorem cZy{F:Am}{S S':Sto}{H:Hp}(r:Rp K F S H)(hs:∀a o,S' a=some o->S a=some o):∀{d e:D},Frz S S' d e->(∀v,RepV K (mt S F) H d v->RepV K (mt S' F) H e v)/\(∀ds es,d=.tup ds->e=.tup es->∀vs,RepL K (mt S F) H ds vs->RepL K (mt S' F) H es vs):=by
 intro d e h;have kp:Keep (mt S F) H (mt S' F) H:=(Ext.less (H:=H) hs).kp
 induction h with
 |same d=>exact⟨λv h=>h.keep kp,λds es e1 e2 vs l=>by cases e1;cases e2;exact l.keep kp⟩
 |@ref a xs ys h h' l Y =>
  refine⟨λv j=>?_,λds es e1=>by cases e1⟩
  rw[rref j];obtain⟨us,Z,N⟩:=r.obj a _ h;unfold RepV;refine⟨a,us,rfl,.inl ⟨λz=>?_,.inl Z⟩,Y.2 xs ys rfl rfl us N⟩;rcases z with z|z
  ·exact z h'
  ·rw[(r.frm a z).2] at h;cases h
 |nil=>exact⟨λv h=>h.keep kp,λds es e1 e2 vs l=>by cases e1;cases e2;exact l.keep kp⟩
 |@cons d e ds es h l J B =>
  have ls:∀vs,RepL K (mt S F) H (d::ds) vs->RepL K (mt S' F) H (e::es) vs:=λvs l=>by
   unfold RepL at l ⊢;obtain⟨v,vs,rfl,L,O⟩:=l;exact⟨v,vs,rfl,J.1 v L,B.2 ds es rfl rfl vs O⟩
  refine⟨λv j=>?_,λds' es' e1 e2 vs l=>by cases e1;cases e2;exact ls vs l⟩
  unfold RepV at j ⊢;obtain⟨a,us,rfl,t,l⟩:=j;exact⟨a,us,rfl,t.keep kp,ls us l⟩
def rtD(Q:DK):DK:=λd S=>∃d' S',(∀a o,S' a=some o->S a=some o)/\Frz S S' d d'/\Q d' S'
theorem aQr{Q:DK}{d:D}{S:Sto}(h:Q d S):rtD Q d S:=⟨d,S,λ_ _ e=>e,.same d,h⟩
theorem aZd{Q:DK}{d:D}{S S':Sto}(hs:∀a o,S' a=some o->S a=some o)(h:Q d S'):rtD Q d S:=⟨d,S',hs,.same d,h⟩
def cQ5(Q:DK):EndsD:={nx:=λ_ S=>rtD Q .non S,rt:=rtD Q}
def aJ1(N:List Str)(ds:List D):Gm:=ds.map some++g8 (N.length-ds.length) none
theorem bQu{M:Am}{H:Hp}{N:List Str}{ds:List D}{vs:List V}(l:RepL K M H ds vs):RepG K M H (aJ1 N ds) (start N vs):=by
 have j:∀n,RepG K M H (g8 n none) (g8 n none):=λn=>by
  induction n with
  |zero=>exact rfl
  |succ n B=>exact⟨none,_,rfl,B⟩
 have gen:∀{ds:List D}{vs:List V}{g:Gm}{σ:St},RepL K M H ds vs->RepG K M H g σ->RepG K M H (ds.map some++g) (vs.map some++σ):=by
  intro ds
  induction ds with
  |nil=>intro vs g σ l h;unfold RepL at l;subst l;exact h
  |cons d ds B =>
   intro vs g σ l h;unfold RepL at l;obtain⟨v,vs,rfl,r,l⟩:=l;exact⟨v,_,rfl,r,B l h⟩
 unfold aJ1 start;rw[l.length];exact gen l (j _)
theorem aZu{P:aE}{w:aQ}{mg:Str->Option ad}{base:aX}{x:Str}{st:Stmt}{N ps:List Str}{sp:SpD}(T:Tx K mg x st)(S:FnScope N ps (aQ3 st))
  (b:∀{f:Addr}{fd:c6},Fun K x x st f fd->Binds K fd ps []) (len:∀ds S Q,sp ds S Q->ds.length=ps.length)
  (h:∀ (f:Addr) (cdv:ad) (A:aW) (outer:List Env) (s:ah) (H:Hp) (E:XK),Room k (A.deeper (g9 x (aQ3 st) s.heap.objs.size f cdv)) ->
   ∃t,PSsD K (cxOf CX0 P w K mg base N x (aQ3 st) f cdv A outer s H E).nox (aZ5 st) t/\∀ds S Q,sp ds S Q->t (cQ5 Q) (aJ1 N ds) S):Df P w K mg base (k+1) x ps (spU K sp):=by
 refine T.df b λ{f fd} Fn=>Fn.ok S (λvs H Q E D=>by obtain⟨F,S,ds,QD,r,l,j,c⟩:=D;rw[l.length];exact len ds S QD j) (λcdv A outer s H vs Q E' O D=>?_)
 obtain⟨F,S,ds,QD,r,l,j,c⟩:=D;obtain⟨t,h1,h2⟩:=h f cdv A outer s H E' O;have fin:∀v d H' S',Ext S H S' H'->Rp K F S' H'->RepV K (mt S' F) H' d v->rtD QD d S'->Q v H':=λv d H' S' J B v1 L=>by
  obtain⟨Z,S2,hs,Y,q⟩:=L;exact c v Z H' S2 (J.trans (Ext.less hs)) (B.less hs) ((cZy B hs Y).1 v v1) q
 exact⟨_,h1.o,F,S,aJ1 N ds,cQ5 QD,r,bQu l,h2 ds S QD j,fun Γ' S' σ' H' J B g1 q=>fin .non .non H' S' J B (by unfold RepV;rfl) q,fin,λ_ _ _ _ _ _ _ q=>q.elim,λ_ _ _ _ _ _ _ q=>q.elim⟩
theorem eXp{M:Am}{H:Hp}:∀{as:List Int},RepL K M H (as.map D.int) (as.map V.int)
 |[]=>RepL.nil
 |a::as=>RepL.cons (by unfold RepV;rfl) eXp
def dMt(rd:D->List D->Sto->DK->Prop)(ck:D->Sto->Prop)(to:ED)(t:AD):ED:=fun Γ S Q=>to Γ S λo S1=>ck o S1/\t Γ S1 λds S2=>rd o ds S2 Q
def MtD(K:Fg)(T:String)(r:V->List V->Hp->VK->Prop)(rd:D->List D->Sto->DK->Prop)(ck:D->Sto->Prop):Prop :=
 (∀F S H d x,Rp K F S H->RepV K (mt S F) H d x->ck d S->tyV K T x H)/\∀F S H d ds x vs Q QD,Rp K F S H->RepV K (mt S F) H d x->RepL K (mt S F) H ds vs->rd d ds S QD->Cn K F S H QD Q->r x vs H Q
theorem e_bm{T id:String}{name:Str}{r:V->List V->Hp->VK->Prop}{rd:D->List D->Sto->DK->Prop}{ck:D->Sto->Prop}{o e:Expr}{es:List Expr}{to:ED}{t:AD}{apos cpos:Pos}(M:MtD K T r rd ck)
  (pa:PlainAttrs T) (slot:Slot T name id) (hty:typeOf (.builtin id)=pure (.type "method_descriptor")) (hm:MtR X id r) (ho:PD K X o to) (ha:PAD K X (e::es) t) (hK:X.K=K:=by rfl)
  (hbase:gD o name X.env (eval o X.env)=eval o X.env:=by rfl)
  (hfew:((cq cpos (az (e::es) X.env)).all (λx=>!x.1) && (iK cpos (fN [] X.env)).all (λx=>x.1.isSome)
   && decide ((e::es).length+([]:List gQ).length+(if ([]:List gQ).isEmpty then 0 else 1)<30))=true:=by rfl)
  (hline:(apos.endLine==cpos.line)=true:=by rfl) (hs:az (e::es) X.env=(false,eval e X.env)::az es X.env:=by rfl) (hplain:(cq cpos (az es X.env)).any (·.1)=false:=by rfl) :
  PD K X (.Call (.Attribute o name apos) (e::es) [] cpos) (dMt rd ck to t):=by
 subst hK;exact .of (fQ5 pa slot hty hm ho.o ha.o hbase hfew hline hs hplain) fun σ H Q N=>N.el λF S Γ QD r g q c =>
  ⟨F,S,Γ,_,r,g,q,λv d H1 L B J v1 ⟨k1,Z⟩=>⟨M.1 F L H1 d v J v1 k1,F,L,Γ,_,J,g.ext B,Z,λvs ds H2 S2 j O v2 Y=>M.2 F S2 H2 d ds v vs Q QD O (v1.ext j) v2 Y (Cn.shift c (B.trans j))⟩⟩
def ckL(d:D)(S:Sto):Prop:=match d with
 |.ref a=>∃xs,S a=some (.lst xs)
 |_=>False
theorem ty_L{F:Am}{S:Sto}{H:Hp}{d:D}{x:V}(r:Rp K F S H)(h:RepV K (mt S F) H d x)(c:ckL d S):tyV K "list" x H:=by
 cases d with
 |ref a =>
  obtain⟨xs,j⟩:=c;rw[rref h];obtain⟨us,B,_⟩:=r.obj a _ j;exact .inl ⟨rfl,us,SqL.of B⟩
 |_=>exact c.elim
theorem Cn.write{F:Am}{S:Sto}{H:Hp}{QD:DK}{Q:VK}(c:Cn K F S H QD Q)(r:Rp K F S H){a:Addr}{xs ys:List D}{us ws:List V}(hS:S a=some (.lst xs))(l:RepL K (mt S F) H ys ws){d:D}{v:V}(hv:RepV K (mt S F) H d v)(q:QD d (supd S a (.lst ys))):Q v (upd H a (.lst ws)):=by
 have j:S a≠none:=by rw[hS];exact λz=>by cases z
 have x:Ext S H (supd S a (.lst ys)) (upd H a (.lst ws)):=Ext.write j;exact c v d _ _ x (r.write j ⟨ws,aQ9,l.ext x⟩) (hv.ext x) q
def appD:D->List D->Sto->DK->Prop:=λo ds S Q=>match o,ds with
 |.ref a,[y]=>∃xs,S a=some (.lst xs)/\xs.length<sizeLine/\Q .non (supd S a (.lst (xs++[y])))
 |_,_=>False
theorem eXq:MtD K "list" cQu appD ckL:=⟨λF S H d x r h c=>ty_L r h c,λF S H d ds x vs Q QD r h l q c=>by
 match d,ds,q with
 |.ref a,[y],⟨xs,B,J,q⟩ =>
  obtain⟨v,rfl,D⟩:=l.one;obtain⟨us,L,j⟩:=r.obj a _ B;rw[rref h];exact⟨a,us,v,rfl,rfl,L,by rw[j.length];exact J,c.write r (us:=us) B (j.app (RepL.cons D RepL.nil)) (by unfold RepV;rfl) q⟩⟩
def cZz:D->List D->Sto->DK->Prop:=λo ds S Q=>match o,ds with
 |.ref a,[.int i]=>∃xs j y,S a=some (.lst xs)/\i=(j:Nat)/\(j:Nat)<2^63/\xs[(j:Nat)]?=some y/\Q y (supd S a (.lst (xs.eraseIdx j)))
 |_,_=>False
theorem cJx:MtD K "list" dQk cZz ckL:=⟨λF S H d x r h c=>ty_L r h c,λF S H d ds x vs Q QD r h l q c=>by
 match d,ds,q with
 |.ref a,[.int i],⟨xs,j,y,D,hi,Z,N,q⟩ =>
  obtain⟨v,rfl,L⟩:=l.one;obtain⟨us,O,B⟩:=r.obj a _ D;obtain⟨z,e1,J⟩:=B.get N;rw[rref h,rint L];have Y:j<us.length:=by
   rcases Nat.lt_or_ge j us.length with z|z
   ·exact z
   ·rw[bV z] at e1;cases e1
  have e2:seqIndex? i us.length=some j:=by
   subst hi
   have:ixN us.length (j:Int)=some j:=by unfold ixN;rw[if_pos (by lia),if_pos (by lia),bN]
   exact(bX7 this).1
  exact⟨a,us,i,j,z,rfl,rfl,O,by lia,by subst hi;exact_mod_cast Z,e2,e1,c.write r (us:=us) D (B.erase j) J q⟩⟩
theorem aX7{o e:Expr}{to:ED}{t:AD}{apos cpos:Pos}(ho:PD K X o to)(ha:PAD K X [e] t)(hK:X.K=K:=by rfl)
  (hbase:gD o "append" X.env (eval o X.env)=eval o X.env:=by rfl)
  (hfew:((cq cpos (az [e] X.env)).all (λx=>!x.1) && (iK cpos (fN [] X.env)).all (λx=>x.1.isSome)
   && decide (([e]:List Expr).length+([]:List gQ).length+(if ([]:List gQ).isEmpty then 0 else 1)<30))=true:=by rfl)
  (hline:(apos.endLine==cpos.line)=true:=by rfl) (hs:az [e] X.env=(false,eval e X.env)::az [] X.env:=by rfl) (hplain:(cq cpos (az [] X.env)).any (·.1)=false:=by rfl) :
  PD K X (.Call (.Attribute o "append" apos) [e] [] cpos) (dMt appD ckL to t):=e_bm eXq iY PySem.F.slot_list_append PySem.F.type_list_append bZh ho ha hK hbase hfew hline hs hplain
theorem dXs{o e:Expr}{to:ED}{t:AD}{apos cpos:Pos}(ho:PD K X o to)(ha:PAD K X [e] t)(hK:X.K=K:=by rfl)
  (hbase:gD o "pop" X.env (eval o X.env)=eval o X.env:=by rfl)
  (hfew:((cq cpos (az [e] X.env)).all (λx=>!x.1) && (iK cpos (fN [] X.env)).all (λx=>x.1.isSome)
   && decide (([e]:List Expr).length+([]:List gQ).length+(if ([]:List gQ).isEmpty then 0 else 1)<30))=true:=by rfl)
  (hline:(apos.endLine==cpos.line)=true:=by rfl) (hs:az [e] X.env=(false,eval e X.env)::az [] X.env:=by rfl) (hplain:(cq cpos (az [] X.env)).any (·.1)=false:=by rfl) :
  PD K X (.Call (.Attribute o "pop" apos) [e] [] cpos) (dMt cZz ckL to t):=e_bm cJx iY PySem.F.slot_list_pop PySem.F.type_list_pop cJa ho ha hK hbase hfew hline hs hplain
end
end L2
set_option maxHeartbeats 1000000
namespace L2
open PySem PySem.Spec PyProof.Rows
def leS(a b:Str):Bool:=!HT.ltS b a
def leT(a b:List Str):Bool:=!HT.lexS b a
theorem bQv:∀a:List Str,HT.lexS a a=false
 |[]=>rfl
 |x::xs=>by rw[HT.lexS_cons,if_pos rfl,bQv xs]
theorem eXr(a b c:Str)(h:leS a b=true)(h':leS b c=true):leS a c=true:=by
 unfold leS at *
 rw[dg] at *
 cases e:HT.ltS c a with
 |false=>rfl
 |true =>
  by_cases j:b=a
  ·subst j;rw[h'] at e;cases e
  ·have:=HT.ltS_tr e (HT.ltS_tot h j)
   rw[h'] at this;cases this
theorem dXt(a b:Str):(leS a b||leS b a)=true:=by
 unfold leS;cases e:HT.ltS b a with
 |false=>rfl
 |true=>rw[HT.ltS_as e];rfl
theorem cJy{a b:Str}(h:leS a b=true)(h':leS b a=true):a=b:=by
 unfold leS at *
 rw[dg] at *
 exact ba λn=>by
  have:=HT.ltS_tot h (λz=>n z.symm)
  rw[h'] at this;cases this
theorem eXs(a b c:List Str)(h:leT a b=true)(h':leT b c=true):leT a c=true:=by
 unfold leT at *
 rw[dg] at *
 cases e:HT.lexS c a with
 |false=>rfl
 |true =>
  by_cases j:b=a
  ·subst j;rw[h'] at e;cases e
  ·have:=HT.lexS_tr e (HT.lexS_tot h j)
   rw[h'] at this;cases this
theorem dXu(a b:List Str):(leT a b||leT b a)=true:=by
 unfold leT;cases e:HT.lexS b a with
 |false=>rfl
 |true=>rw[HT.lexS_as e];rfl
theorem cJz{a b:List Str}(h:leT a b=true)(h':leT b a=true):a=b:=by
 unfold leT at *
 rw[dg] at *
 exact ba λn=>by
  have:=HT.lexS_tot h (λz=>n z.symm)
  rw[h'] at this;cases this
def srS(l:List Str):List Str:=l.mergeSort leS
def srT(l:List (List Str)):List (List Str):=l.mergeSort leT
def srI(l:List Int):List Int:=l.mergeSort λa b=>decide (a<=b)
theorem aZm(l:List Str):(srS l).Perm l:=gP _ _
theorem aZn(l:List (List Str)):(srT l).Perm l:=gP _ _
theorem dQ0(l:List Int):(srI l).Perm l:=gP _ _
theorem bZw(l:List Str):(srS l).Pairwise λa b=>leS a b=true:=fQ eXr dXt l
theorem cX0(l:List (List Str)):(srT l).Pairwise λa b=>leT a b=true:=fQ eXs dXu l
theorem eXt(l:List Int):(srI l).Pairwise λa b=>decide (a<=b)=true:=fQ (le:=λa b=>decide (a<=b)) (λa b c h h'=>decide_eq_true (Int.le_trans (of_decide_eq_true h) (of_decide_eq_true h'))) (λa b=>by
 rcases Int.le_total a b with h|h
 ·rw[decide_eq_true h];rfl
 ·rw[decide_eq_true h,Bool.or_true]) l
theorem eXu{l out:List Str}(p:out.Perm l)(h:out.Pairwise λa b=>HT.ltS b a=false):out=srS l :=
 (p.trans (aZm l).symm).eq_of_pairwise (λ_ _ _ _ h h'=>cJy h h') (h.imp λh=>by unfold leS;rw[h];rfl) (bZw l)
theorem dXv{l out:List (List Str)}(p:out.Perm l)(h:out.Pairwise λa b=>HT.lexS b a=false):out=srT l :=
 (p.trans (aZn l).symm).eq_of_pairwise (λ_ _ _ _ h h'=>cJz h h') (h.imp λh=>by unfold leT;rw[h];rfl) (cX0 l)
theorem eXv{l out:List Int}(p:out.Perm l)(h:out.Pairwise (·<=·)):out=srI l :=
 (p.trans (dQ0 l).symm).eq_of_pairwise (λ_ _ _ _ h h'=>Int.le_antisymm (of_decide_eq_true h) (of_decide_eq_true h')) (h.imp λh=>decide_eq_true h) (eXt l)
section
variable{X:Cx}{K:Fg}{pos:Pos}{k:Nat}{e:Expr}{t:AD}{p:Pos}
theorem bXo{M:Am}{H:Hp}:∀{as:List Int}{xs:List V},RepL K M H (as.map D.int) xs->xs=as.map V.int
 |[],xs,h=>by rw[eP] at h;unfold RepL at h;exact h
 |a::as,xs,h=>by
  rw[bg] at h;unfold RepL at h;obtain⟨v,vs,rfl,r,l⟩:=h;unfold RepV at r;rw[r,bXo l];rfl
theorem cX1{M:Am}{H:Hp}:∀{as:List Int},RepL K M H (as.map D.int) (as.map V.int)
 |[]=>RepL.nil
 |a::as=>RepL.cons (by unfold RepV;rfl) cX1
theorem cX2{M:Am}{H:Hp}:∀{as:List Str}{xs:List V},RepL K M H (as.map D.str) xs->xs=as.map V.str
 |[],xs,h=>by rw[eP] at h;unfold RepL at h;exact h
 |a::as,xs,h=>by
  rw[bg] at h;unfold RepL at h;obtain⟨v,vs,rfl,r,l⟩:=h;unfold RepV at r;rw[r,cX2 l];rfl
theorem cX3{M:Am}{H:Hp}:∀{as:List Str},RepL K M H (as.map D.str) (as.map V.str)
 |[]=>RepL.nil
 |a::as=>RepL.cons (by unfold RepV;rfl) cX3
def keyD:Key->D
 |.inl i=>.int i
 |.inr x=>.str x
def srcIs(S:Sto)(d:D)(xs:List D):Prop:=match d with
 |.tup ys=>xs=ys
 |.lst ys=>xs=ys
 |.ref a=>S a=some (.lst xs)\/∃kvs,S a=some (.dk kvs)/\xs=kvs.map λp=>keyD p.1
 |_=>False
theorem cX4{M:Am}{H:Hp}:∀{ks:List (Key×V)}{kvs:List (Key×D)},bG (λ(p:Key×V) (q:Key×D)=>p.1=q.1/\RepV K M H q.2 p.2) ks kvs->RepL K M H (kvs.map λp=>keyD p.1) (ks.map λp=>kV p.1)
 |_,_,.nil=>RepL.nil
 |_,_,.cons (a:=a) (b:=b) h l=>by
  refine RepL.cons ?_ (cX4 l);show RepV K M H (keyD b.1) (kV a.1);rw[h.1];cases b.1 <;> (unfold keyD kV RepV;rfl)
theorem srcIs.src{F:Am}{S:Sto}{H:Hp}(r:Rp K F S H){d:D}{v:V}{xs:List D}(h:RepV K (mt S F) H d v)(l:srcIs S d xs):∃us,Src K H v us/\RepL K (mt S F) H xs us:=by
 cases d with
 |tup ys=>cases l;obtain⟨a,us,rfl,sq,l⟩:=tup.st h;exact⟨us,⟨a,rfl,.inr (.inl sq)⟩,l⟩
 |lst ys=>cases l;obtain⟨a,us,rfl,sq,l⟩:=lsIs.sl r h (show lsIs S (.lst xs) xs from rfl);exact⟨us,⟨a,rfl,.inl sq⟩,l⟩
 |ref a =>
  rw[rref h];rcases l with l|⟨J,l,rfl⟩
  ·obtain⟨us,B,j⟩:=r.obj a _ l;exact⟨us,⟨a,rfl,.inl (SqL.of B)⟩,j⟩
  ·obtain⟨L,B,j⟩:=r.obj a _ l;exact⟨_,⟨a,rfl,.inr (.inr ⟨L,B,rfl⟩)⟩,cX4 j⟩
 |_=>exact l.elim
def tupS(t:List Str):D:=.tup (t.map D.str)
def srtD(b:Bool):RCD:=λds S Q=>match ds with
 |[d]=>(∃ss:List Str,srcIs S d (ss.map D.str)/\newL b ((srS ss).map D.str) S Q)\/(∃ns:List Int,srcIs S d (ns.map D.int)/\newL b ((srI ns).map D.int) S Q) \/
  ∃ts:List (List Str),srcIs S d (ts.map tupS)/\newL b ((srT ts).map tupS) S Q
 |_=>False
def fQt(K:Fg):List V->Hp->VK->Prop:=λxs H Q=>eXi K xs H Q\/eXj K xs H Q\/eXk K xs H Q
theorem cX5{S:Sto}{F:Am}{H:Hp}:∀{ts:List (List Str)}{us:List V},RepL K (mt S F) H (ts.map tupS) us->bG (dT K dS H) us ts
 |[],us,h=>by rw[eP] at h;unfold RepL at h;subst h;exact .nil
 |a::as,xs,h=>by
  rw[bg] at h;unfold RepL at h;obtain⟨v,vs,rfl,r,l⟩:=h;exact .cons (bXj r) (cX5 l)
theorem dZ0{M:Am}{H:Hp}{ds:List D}{us:List V}(l:RepL K M H ds us):∀(idx:List Nat),(∀i∈idx,i<us.length)->RepL K M H (idx.map λi=>ds.getD i .non) (idx.map λi=>us.getD i .non)
 |[],_=>RepL.nil
 |i::idx,h=>by
  have hi:=h i au;refine RepL.cons ?_ (dZ0 l idx λj B=>h j (ay _ B));obtain⟨d,J,rd⟩:=l.get' (ag hi);show RepV K M H (ds.getD i .non) (us.getD i .non);rw[am,am,J,ag hi];exact rd
theorem eXw{b:Bool}:aJu K (fQt K) (srtD b):=by
 intro F S H ds vs Q QD r l h c
 match ds,h with
 |[d],h =>
  obtain⟨v,rfl,J⟩:=l.one;rcases h with⟨ss,h1,q⟩|⟨ss,h1,q⟩|⟨ts,h1,q⟩
  ·obtain⟨us,hs,j⟩:=h1.src r J;rw[cX2 j] at hs;exact .inl ⟨v,ss,rfl,hs,λp out B N L=>by
    rw[eXu N L];exact c.new r B cX3 q⟩
  ·obtain⟨us,hs,j⟩:=h1.src r J;rw[bXo j] at hs;exact .inr (.inl ⟨v,ss,rfl,hs,λp out B N L=>by
    rw[eXv N L];exact c.new r B cX1 q⟩)
  ·obtain⟨us,hs,j⟩:=h1.src r J;refine .inr (.inr ⟨v,us,ts,rfl,hs,cX5 j,λp idx B i1 Z Y=>c.new r B ?_ q⟩);have hl:=j.length;rw[ak] at hl;have D:∀i∈idx,i<us.length:=λi hi=>cz.mp (i1.mem_iff.mp hi)
   have:=dZ0 j idx D
   rw[<- dXv Y Z,a7];have e:(idx.map λi=>(ts.map tupS).getD i .non)=idx.map (tupS∘λi=>ts.getD i []):=dP λi hi=>by
    have O:i<ts.length:=by have:=D i hi;omega
    show(ts.map tupS).getD i .non=tupS (ts.getD i []);rw[am,am,aK,ag O]
    rfl
   rw[<- e];exact this
theorem aZ3{b:Bool}(hr:Room k X.A)(hg:Gl X "sorted")(hm:X.mg "sorted"=none)(ha:PAD K X [e] t)(hK:X.K=K:=by rfl)(hc:X.calm=true:=by rfl)(he:az [e] X.env=(false,eval e X.env)::az [] X.env:=by rfl)(hpl:(cq pos (az [] X.env)).any (·.1)=false:=by rfl):PD K X (.Call (.Name "sorted" p) [e] [] pos) (dCB (srtD b) t):=aXd ((cZs hK hc).or ((cZt hK hc).or (cZu (lt10 hr) hK hc))) eXw hg hm bZi ha (by decide) (by decide) he hpl
def dkey:D->Option Key
 |.int i=>some (.inl i)
 |.str x=>some (.inr x)
 |_=>none
theorem bQw{M:Am}{H:Hp}{d:D}{v:V}{key:Key}(h:RepV K M H d v)(e:dkey d=some key):v=kV key:=by
 cases d <;> first|(cases e;unfold RepV at h;exact h)|cases e
end
end L2
set_option maxHeartbeats 4000000
namespace L2
open PySem PySem.Spec PyProof.Rows
theorem md{a b:Int}(h:0<b):0<=a%b/\a%b<b:=⟨Int.emod_nonneg _ (by lia),Int.emod_lt_of_pos _ h⟩
theorem aJh{g:GD}{tt:TD}{tb:BD}{G:Sto->Prop}{Γ0:Gm}{xs acc:List D}{S:Sto}{Q:List D->Sto->Prop}(I:Nat->List D->Sto->Prop)(h0:I 0 acc S)
  (hs:∀i x acc S (N:List D->Sto->Prop),xs[i]?=some x->I i acc S->(∀acc' S',I (i+1) acc' S'->N acc' S')->G S/\g x Γ0 S fun Γ2 S2=>tt Γ2 S2 λb S3=>if b=true then tb Γ2 S3 acc N else N acc S3)
  (hd:∀acc S,I xs.length acc S->G S/\Q acc S):aZ7 g tt tb G Γ0 xs acc S Q:=by
 have gen:∀n i acc S,i+n=xs.length->I i acc S->aZ7 g tt tb G Γ0 (xs.drop i) acc S Q:=by
  intro n
  induction n with
  |zero =>
   intro i acc S hi h;have e:i=xs.length:=by lia
   subst e;rw[eE];exact hd acc S h
  |succ n B =>
   intro i acc S hi h;have j:i<xs.length:=by lia
   rw[aX0 j];exact hs i xs[i] acc S (λacc' J=>aZ7 g tt tb G Γ0 (xs.drop (i+1)) acc' J Q) (ag j) h λacc' S' h'=>B (i+1) acc' S' (by lia) h'
 simpa using gen xs.length 0 acc S (by lia) h0
theorem aXw{g:GD}{tb:SD}{G:Sto->Prop}{E:EndsD}{xs:List D}{Γ:Gm}{S:Sto}(I:Nat->Gm->Sto->Prop)(h0:I 0 Γ S)
  (hs:∀i x Γ S (N:Gm->Sto->Prop),xs[i]?=some x->I i Γ S->(∀Γ' S',I (i+1) Γ' S'->N Γ' S')->G S/\g x Γ S fun Γ2 S2=>tb {E with nx:=N,ct:=N,bk:=E.nx} Γ2 S2)
  (hd:∀Γ S,I xs.length Γ S->G S/\E.nx Γ S):forD g tb G E xs Γ S:=by
 have gen:∀n i Γ S,i+n=xs.length->I i Γ S->forD g tb G E (xs.drop i) Γ S:=by
  intro n
  induction n with
  |zero =>
   intro i Γ S hi h;have e:i=xs.length:=by lia
   subst e;rw[eE];exact hd Γ S h
  |succ n B =>
   intro i Γ S hi h;have j:i<xs.length:=by lia
   rw[aX0 j];exact hs i xs[i] Γ S (forD g tb G E (xs.drop (i+1))) (ag j) h fun Γ' S' h'=>B (i+1) Γ' S' (by lia) h'
 simpa using gen xs.length 0 Γ S (by lia) h0
theorem aQn{α:Type}{i:Nat}{te:ED}{Γ0:Gm}{S:Sto}{Q:List D->Sto->Prop}{enc:α->D}{f:α->D}{xs:List α}{acc:List D}(h:∀x∈xs,∀Q:DK,Q (f x) S->te (Γ0.set i (some (enc x))) S Q)(hn:acc.length+xs.length<=sizeLine)
  (q:Q (acc++xs.map f) S):aZ7 (aZg i) dYes (aJ9 te) (λ_=>True) Γ0 (xs.map enc) acc S Q:=by
 induction xs generalizing acc with
 |nil=>exact⟨trivial,by simpa using q⟩
 |cons x xs B =>
  refine⟨trivial,?_⟩;show aJ9 te (Γ0.set i (some (enc x))) S acc (λj L=>aZ7 (aZg i) dYes (aJ9 te) (λ_=>True) Γ0 (xs.map enc) j L Q);refine h x au _ ⟨by simp at hn;lia,B (λy J=>h y (ay _ J)) (by simp at hn ⊢;lia) (by simpa using q)⟩
theorem aZe{α:Type}{i:Nat}{tt:TD}{te:ED}{Γ0:Gm}{S:Sto}{Q:List D->Sto->Prop}{enc:α->D}{p:α->Bool}{f:α->D}{xs:List α}{acc:List D}(ht:∀x∈xs,∀Q:Bool->Sto->Prop,Q (p x) S->tt (Γ0.set i (some (enc x))) S Q)(h:∀x∈xs,p x=true->∀Q:DK,Q (f x) S->te (Γ0.set i (some (enc x))) S Q)(hn:acc.length+xs.length<=sizeLine)
  (q:Q (acc++(xs.filter p).map f) S):aZ7 (aZg i) tt (aJ9 te) (λ_=>True) Γ0 (xs.map enc) acc S Q:=by
 induction xs generalizing acc with
 |nil=>exact⟨trivial,by simpa using q⟩
 |cons x xs B =>
  refine⟨trivial,?_⟩;show tt (Γ0.set i (some (enc x))) S _;refine ht x au _ ?_;cases hp:p x with
  |true =>
   rw[if_pos rfl];refine h x au hp _ ⟨by simp at hn;lia,B (λy j=>ht y (ay _ j)) (λy j=>h y (ay _ j)) (by simp at hn ⊢;lia) ?_⟩
   rw[fy,hp] at q;simpa using q
  |false =>
   rw[if_neg (by simp)]
   refine B (λy j=>ht y (ay _ j)) (λy j=>h y (ay _ j)) (by simp at hn ⊢;lia) ?_
   rw[fy,hp] at q;simpa using q
def sg(c:Nat):Str:=⟨#[c]⟩
theorem dQ1{α:Type}(f:α->D)(xs:List α)(lo hi:Option Int):cutD (xs.map f) lo hi=((xs.drop (HT.sIx xs.length 0 lo)).take (HT.sIx xs.length xs.length hi-HT.sIx xs.length 0 lo)).map f:=by
 unfold cutD;rw[ak,jx,List.map_drop]
theorem dXw(n:Nat):rngD 0 n=(bQ n).map λi=>.int (i:Nat):=by
 apply e7;intro i
 by_cases h:i<n
 ·have h1:i<(rngD 0 n).length:=by rw[aX6];exact h
  obtain⟨_,e⟩:=aJg n 0 i _ (ag h1);rw[ag h1,e,aK,List.getElem?_range h];simp
 ·rw[bV (by rw[aX6];lia),bV (by simp;lia)]
theorem cX6{n i:Nat}{x:D}(h:(rngD 0 n)[i]?=some x):i<n/\x=.int (i:Nat):=by
 obtain⟨h1,h2⟩:=aJg n 0 i x h;exact⟨h1,by rw[h2,Int.zero_add]⟩
def Off(a:Addr)(S S':Sto):Prop:=∀b,b≠a->S' b=S b
theorem Off.trans{a:Addr}{S S1 S2:Sto}(h:Off a S S1)(h':Off a S1 S2):Off a S S2:=λb j=>(h' b j).trans (h b j)
end L2
set_option maxHeartbeats 1000000
namespace L2
open PySem PySem.Spec PyProof.Rows
end L2
set_option maxHeartbeats 4000000
namespace L2
open PySem PySem.Spec PyProof.Rows
section
variable{X:Cx}{K:Fg}{pos:Pos}{k:Nat}
def rLeS:R2:=λx y H Q=>∃i j:Str,x=.str i/\y=.str j/\Q (.bl (!decide (j.cps.toList<i.cps.toList))) H
theorem eXx:OpR X (cC .LtE) rLeS:=by
 intro pins s σ H x y v u Q I D B h;obtain⟨i,j,rfl,rfl,q⟩:=h;obtain⟨t,rfl⟩:=D;obtain⟨J,rfl⟩:=B;exact P.le_str ⟨.bl _,H,I,rfl,q⟩
def leSD:R2D:=λd e S Q=>match d,e with
 |.str i,.str j=>Q (.bl (!decide (j.cps.toList<i.cps.toList))) S
 |_,_=>False
theorem eXy:OpD K rLeS leSD:=by
 intro F S H d e x y Q QD r hd he h c
 match d,e,h with
 |.str i,.str j,q =>
  rw[rstr hd,rstr he];exact⟨i,j,rfl,rfl,c _ _ _ S (Ext.refl _ _) r (by unfold RepV;rfl) q⟩
theorem eXz{a b:Expr}{ta tb:ED}(ha:PD K X a ta)(hb:PD K X b tb):PTD K X (.Compare a [.LtE] [b] pos) (aXh (dOp leSD ta tb)):=aXa eXx eXy ha hb (nomark _)
theorem dXx{pins:List (Addr×Obj)}{σ:St}{H:Hp}{s:ah}{Q:VK}{xs:List V}{acc:Array ad}{h':aX}{c tk:Nat}(I:Inv X pins σ H s)(hz:xs.length<=sizeLine)(r:Vals xs acc.toList)(hk:∀b o,s.heap.get? b=some o->h'.get? b=some o)
  (hp:h'.get? s.heap.objs.size=some {cls:=.type "list",dict:=none,data:=.seq acc c,slots:=#[]}) (q:∀l,H l=none->Q (.ref l) (upd H l (.lst xs))):EP X pins σ Q (.ref s.heap.objs.size) {s with heap:=h',toks:=tk}:=by
 refine⟨.ref s.heap.objs.size,_,I.laid (t':=tk) (o:=.lst xs) hk (Nat.le_refl _) ?_,rfl,q _ (I.hok.fresh (Nat.le_refl _))⟩;exact⟨hz,acc.toList,c,r,by rw[Array.toArray_toList];exact hp⟩
theorem cX7:∀{xs:List V}{us:List ad},xs.length=us.length->(∀(i:Nat) (x:V) (u:ad),xs[i]?=some x->us[i]?=some u->RelV x u)->Vals xs us
 |[],[],_,_=>.nil
 |[],_::_,h,_=>by simp at h
 |_::_,[],h,_=>by simp at h
 |x::xs,u::us,h,j=>.cons (j 0 x u rfl rfl) (cX7 (by simpa using h) λi y v h1 h2=>j (i+1) y v (by simpa using h1) (by simpa using h2))
theorem cQ6(hc:X.calm=true:=by rfl):CallR X (.type "list") (λxs H Q=>∃x:Str,xs=[.str x]/\x.length<=1000/\∀l,H l=none->Q (.ref l) (upd H l (.lst (x.cps.toList.map λc=>.str ⟨#[c]⟩)))):=by
 intro pins s σ H xs us Q I r h;obtain⟨x,rfl,J,q⟩:=h;obtain⟨u,rfl,D⟩:=aXb r;obtain⟨t,rfl⟩:=D;have hl:x.cps.size<=1000:=J;refine call_list_str (I.ok.hd hc) x t (λh' O acc c N L it=>dXx I (by rw[ak,aH,bn];lia) ?_ N L q) (by rw[bn];lia)
 refine cX7 (by rw[ak,aH,aH,it.1]) λi y u h1 h2=>?_
 obtain⟨Y,B,j,rfl⟩:=it.2 i u (by rw[<- aU];exact h2)
 rw[aK,aU,j] at h1;cases h1;exact⟨B,rfl⟩
def lsSD(b:Bool):RCD:=λds S Q=>match ds with
 |[.str x]=>x.length<=1000/\newL b (x.cps.toList.map λc=>.str ⟨#[c]⟩) S Q
 |_=>False
theorem bJg{M:Am}{H:Hp}:∀cs:List Nat,RepL K M H (cs.map λc=>D.str ⟨#[c]⟩) (cs.map λc=>V.str ⟨#[c]⟩)
 |[]=>RepL.nil
 |c::cs=>RepL.cons (by unfold RepV;rfl) (bJg cs)
theorem dXy{b:Bool}{e:Expr}{t:AD}{p:Pos}(hg:Gl X "list")(hm:X.mg "list"=none)(ha:PAD K X [e] t)(hc:X.calm=true:=by rfl)(he:az [e] X.env=(false,eval e X.env)::az [] X.env:=by rfl)(hpl:(cq pos (az [] X.env)).any (·.1)=false:=by rfl):PD K X (.Call (.Name "list" p) [e] [] pos) (dCB (lsSD b) t):=aJf (cQ6 hc) (by
 intro F S H ds vs Q QD r l h c
 match ds,h with
 |[.str x],⟨B,q⟩ =>
  obtain⟨v,rfl,j⟩:=l.one;rw[rstr j];exact⟨x,rfl,B,λp D=>c.new r D (bJg _) q⟩) hg hm cQx ha (by decide) (by decide) he hpl
end
end L2
set_option maxHeartbeats 1000000
namespace L2
open PySem PySem.Spec PyProof.Rows
def Its(x:Str):It:=⟨λi _=>i<x.cps.size,λi H v H'=>H'=H/\∃c,x.cps[i]?=some c/\v=.str ⟨#[c]⟩,λi _=>i=x.cps.size⟩
theorem bJh{P:aE}{w:aQ}{K:Fg}{tg:Expr}(x:Str)(t:Tok)(ty:String)(it:Addr)(hty:["enumerate", "zip", "dict_itemiterator", "dict_reverseitemiterator", "odict_iterator", "itertools.zip_longest", "itertools.pairwise"].contains ty=false)
  (W:∀A:aW,A.handled=none->Walks P w A it [it] [it] x.cps.size (SignAt x) (λi h=>h.IsStrIter it ty x t i)) (hs:∀(A:aW) (i:Nat) (s:ah) (Q:ad->ah->Prop) (E:ad->ah->Prop),s.heap.IsStrIter it ty x t i->Q (.ref it) s->aF (aB P w) A (pyIter (.ref it)) Q E s) :
  Turn P w K tg (Its x) [it] it (λi h=>h.IsStrIter it ty x t i) where
 mem:=by simp
 obj:=λi h st b j=>by
  have e:b=it:=by simpa using j
  subst e;obtain⟨o,g,c,d⟩:=st;exact⟨o,g,λv z=>by rw[d] at z;cases z⟩
 keep:=λi h h' st k=>by
  obtain⟨o,g,r⟩:=st;exact⟨o,k it (by simp) o g,r⟩
 item:=by
  intro X Y hw Z O i pins s σ H E I hf st L;subst Y hw Z;obtain⟨f0,f1,f2,f3,f4,f5⟩:=hf it (by simp)
  refine(W X.A (I.ok.hd O)).item i s _ E L st λv h' B hv D J=>?_;obtain⟨c,u,N,rfl⟩:=hv;have I1:Inv X pins σ H {s with heap:=h',toks:=B}:=I.turned (t':=B) (λb o j e=>J b o (by simpa using j) e) f0 f1 f3 f4 f5
  obtain⟨o,e,cl,d⟩:=id D;exact⟨_,rfl,cJ2 (s:={s with heap:=h',toks:=B}) e cl d hty ⟨.str ⟨#[c]⟩,H,I1,⟨u,rfl⟩,⟨rfl,c,N,rfl⟩,D,λb j=>(hf b j).1⟩⟩
 done:=by
  intro X Y hw Z O i pins s σ H E I hf st L;subst Y hw Z;obtain⟨f0,f1,f2,f3,f4,f5⟩:=hf it (by simp)
  have e:i=x.cps.size:=L;subst e;exact(W X.A (I.ok.hd O)).done s _ E st λh' B J=>⟨rfl,I.turned (t':=B) (λb o j e=>J b o (by simpa using j) e) f0 f1 f3 f4 f5⟩
 self:=λA i s Q E st h=>hs A i s Q E st h
section
variable{X:Cx}{tg:Expr}
def iStr(tl:TE):TI:=fun σ H R=>tl σ H λv H1=>∃x,v=.str x/\R (Its x) H1
theorem eJ0{l:Expr}{tl:TE}(hl:PE X l tl):PI X tg l (iStr tl):=by
 intro pins s σ H R I h;refine thn (hl pins s σ H _ I h) λv s1 ⟨y,H1,j,B,x,e,q⟩=>?_;subst e;obtain⟨t,rfl⟩:=B;refine wpAny_pyIter_strU ?_;have J:∀b∈[s1.heap.objs.size],FpOk X pins H1 b:=λb D=>by
  have e:b=s1.heap.objs.size:=by simpa using D
  subst e;exact j.fpOk (Nat.le_refl _) (j.hok.fresh (Nat.le_refl _))
 refine⟨s1.heap.objs.size,[s1.heap.objs.size],(λi h=>h.IsStrIter s1.heap.objs.size (strIterType x) x t i),_,H1,rfl,j.kept (t':=s1.toks) λb o e=>af _ e,?_,⟨_,aq _ rfl,rfl,rfl⟩,J,q⟩;unfold strIterType
 split
 ·exact bJh x t _ _ (by decide) (λA hh=>Walks.strAscii hh _ x t) λA i s Q E st h=>wpAny_pyIter_striter_ascii st h
 ·exact bJh x t _ _ (by decide) (λA hh=>Walks.strWide hh _ x t) λA i s Q E st h=>wpAny_pyIter_striter_wide st h
end
section
variable{X:Cx}{K:Fg}{pos:Pos}
theorem dXz{F:Am}{S:Sto}{H:Hp}{x:Str}{G:Sto->Prop}:ItOk K F S H (Its x) (cJt x) G where
 go:=λL f J H2 y j _ i d hd=>by
  unfold cJt at hd;rw[aK,bB] at hd;obtain⟨c,hc,rfl⟩:=hd;rw[aU] at hc;have hi:i<x.cps.size:=by
   rcases Nat.lt_or_ge i x.cps.size with z|z
   ·exact z
   ·rw[Array.getElem?_eq_none z] at hc;cases hc
  refine⟨hi,λz O ⟨D,N,hc',B⟩=>?_⟩;subst B;subst D;rw[hc] at hc';cases hc';exact⟨Ext.refl _ _,j,by unfold RepV;rfl⟩
 stop:=λL f J H2 y j _=>by unfold cJt;rw[ak];exact aH
def fQu(te:ED):ID:=fun Γ S Q=>te Γ S λd S1=>match d with
 |.str x=>Q (cJt x) (λ_=>True) S1
 |_=>False
theorem dZ1{tg l:Expr}{tl:ED}(hl:PD K X l tl):PID K X tg l (fQu tl):=.of (eJ0 hl.o) fun σ H Q B=>B.el λF S Γ QD r g q c =>
 ⟨F,S,Γ,_,r,g,q,λv d H1 L D J v1 j=>by
  match d,j with
  |.str x,j=>exact⟨x,rstr v1,c _ _ _ _ _ D J dXz j⟩⟩
end
end L2
set_option maxHeartbeats 4000000
namespace L2
open PySem PySem.Spec PyProof.Rows
section
variable{X:Cx}{K:Fg}{pos:Pos}{k:Nat}{F:Am}{S:Sto}{H:Hp}
theorem Rp.ntup(r:Rp K F S H){a:Addr}{xs:List V}(h:Rd H a (.tup xs)):¬ mt S F a:=λz=>by
 have no:∀u,H a=some u->(∀ys,u≠.tup ys)->(∀o ys,u≠.frz o (.tup ys))->False:=λu e L J=>by
  rcases h with h|⟨o,h⟩
  ·rw[e] at h;exact L _ (aR h)
  ·rw[e] at h;exact J _ _ (aR h)
 rcases z with z|z
 ·cases e:S a with
  |none=>exact z e
  |some o =>
   have q:=r.obj a o e;cases o with
   |lst ds=>obtain⟨us,j,_⟩:=q;exact no _ j (λ_ z=>by cases z) λ_ _ z=>by cases z
   |dk B=>obtain⟨us,j,_⟩:=q;exact no _ j (λ_ z=>by cases z) λ_ _ z=>by cases z
   |dt B=>obtain⟨us,j,_⟩:=q;exact no _ j (λ_ z=>by cases z) λ_ _ z=>by cases z
   |tb ps N=>obtain⟨us,j,_⟩:=q;exact no _ j (λ_ z=>by cases z) λ_ _ z=>by cases z
   |ex f O hl=>obtain⟨us,j,D⟩:=hl _ _ _ q;exact no _ j (λ_ z=>by subst z;exact D) λ_ _ z=>by subst z;exact D
 ·obtain⟨⟨zs,e,ct⟩,_⟩:=r.frm a z;exact no _ e (λ_ z=>by subst z;exact ct) λ_ _ z=>by subst z;exact ct
end
end L2
set_option maxHeartbeats 1000000
namespace L2
open PySem PySem.Spec PyProof.Rows
section
variable{X:Cx}
def dSs(w:aQ):Dn (List Str):=λH v ms=>∃p es ep t,v=.ref p/\H p=some (stO p es ep t)/\t.fits es.size=true/\t.led=ST.ledOf w/\(t.plain=true->es.size<=1)/\je (es.toList.map (·.2)) ms
theorem bZx{l l':List ad}(p:l'.Perm l):∀{m:List Str},je l m->∃m',m'.Perm m/\je l' m':=by
 induction p with
 |nil=>intro m h;exact⟨m,.refl _,h⟩
 |cons x p O =>
  intro m h;cases h with
  |cons y t r =>
   obtain⟨m',L,h'⟩:=O r;exact⟨_::m',L.cons _,.cons _ _ h'⟩
 |swap x y l =>
  intro m h;cases h with
  |cons y t r =>
   cases r with
   |cons z u r=>exact⟨_,.swap _ _ _,.cons _ _ (.cons _ _ r)⟩
 |trans p q B j =>
  intro m h;obtain⟨Y,J,h1⟩:=j h;obtain⟨N,D,h2⟩:=B h1;exact⟨N,D.trans J,h2⟩
def cX8(w:aQ):List V->Hp->VK->Prop:=λxs H Q=>∃x ms,xs=[x]/\dSs w H x ms/\ms.Nodup/\ms.length<300/\∀(l:Addr) (out:List Str),H l=none->out.Perm ms->out.Pairwise (λa b=>HT.ltS a b=true)->Q (.ref l) (upd H l (.lst (out.map V.str)))
theorem bQx{w:aQ}(hw:X.w=w:=by rfl)(hc:X.calm=true:=by rfl):CallR X (.builtin "sorted") (cX8 w):=by
 subst hw;intro pins s σ H xs us Q I r h;obtain⟨x,ms,rfl,⟨p,es,ep,t,rfl,hH,hf,N,Y,pp⟩,nd,h64,q⟩:=h;obtain⟨u,rfl,rx⟩:=aXb r;cases rx;obtain⟨hg,_⟩:=I.hok p _ hH;have hl:es.size=ms.length:=by have:=pp.length;simpa using this
 have hh:=I.ok.hd hc;refine io kind_sorted plain_sorted entry_sorted (args_sorted1 _) ?_;unfold bU.«sorted»;refine aa (m:=checkCount "sorted" 1 1 _) (ae ?_);refine aa (ST.collectT (by simp[hh]) hg hf N Y (by omega) λvals h1 d L kp=>?_)
 obtain⟨ms',j,B⟩:=bZx L pp;have hvl:vals.length=ms'.length:=B.length;have hml:ms'.length=ms.length:=j.length_eq;have I1:Inv X pins σ H {s with heap:=h1,drawn:=d}:=(I.kept (t':=s.toks) kp).drawn d
 refine aa (wpAny_newList ?_ (by rw[bn];omega))
 have D:(h1.push (b7 "list" vals.toArray 0)).get? h1.objs.size=some (b7 "list" vals.toArray 0):=aq _ rfl;refine aa (bb (cD slot_list_sort ⟨_,D,rfl⟩ entry_list_sort (SF.treeK strKind_oneLt (s:={s with heap:=h1.push (b7 "list" vals.toArray 0),drawn:=d}) D B.keysOf (λv₁ v₂ rest e=>keyKind_strs (by rw[<- e];exact B)) (by rw[bn];omega) λJ a1 a2=>⟨_,rfl,?_⟩) (args_list_sort _)))
 refine ae ⟨_,rfl,?_⟩;obtain⟨out,o1,O,o3⟩:=sorted_out_str B a1 a2;obtain⟨v1,_⟩:=bQr (H:=H) o1;have Z:H h1.objs.size=none:=I1.hok.fresh (Nat.le_refl _);obtain⟨e,he⟩:=sortedHeap_at (out:=(aO J).map (·.2)) D;have hol:=O.length_eq;have I2:Inv X pins σ (upd H h1.objs.size (.lst (out.map V.str))) {s with heap:=gw (h1.push (b7 "list" vals.toArray 0)) h1.objs.size vals ((aO J).map (·.2)),drawn:=d}:=I1.laid (t':=s.toks) (λb o g=>(sortedHeap_old (Nat.ne_of_lt (aA g)) (Nat.lt_trans (aA g) (aA D))).trans (af _ g)) (Nat.le_refl _)
  ⟨by rw[ak,bn];omega,((aO J).map (·.2)).toList,e,v1,by rw[Array.toArray_toList];exact he⟩
 exact⟨.ref h1.objs.size,_,I2,rfl,q _ _ Z (O.trans j) (dQu o3 ((O.trans j).nodup_iff.mpr nd))⟩
end
section
variable{X:Cx}{K:Fg}{pos:Pos}{k:Nat}
theorem eJ1{M:Am}{H:Hp}:∀ss:List Str,RepL K M H (ss.map D.str) (ss.map V.str)
 |[]=>RepL.nil
 |s::ss=>RepL.cons (by unfold RepV;rfl) (eJ1 ss)
end
end L2
set_option maxHeartbeats 4000000
namespace L2
open PySem PySem.Spec PyProof.Rows
end L2
set_option maxHeartbeats 1000000
namespace L2
open PySem PySem.Spec PyProof.Rows
section
variable{X:Cx}{K:Fg}{pos:Pos}
theorem eJ2:cf "abs"=some (.builtin "abs"):=by decide +kernel
def absD:RCD:=λds S Q=>match ds with
 |[.int i]=>Q (.int (if i<0 then -i else i)) S
 |_=>False
theorem dJ0{e:Expr}{t:AD}{p:Pos}(hg:Gl X "abs")(hm:X.mg "abs"=none)(ha:PAD K X [e] t)(he:az [e] X.env=(false,eval e X.env)::az [] X.env:=by rfl)(hpl:(cq pos (az [] X.env)).any (·.1)=false:=by rfl):PD K X (.Call (.Name "abs" p) [e] [] pos) (dCB absD t):=aXd cJ5 (by
 intro F S H ds vs Q QD r l h c
 match ds,h with
 |[.int i],q =>
  obtain⟨v,rfl,j⟩:=l.one;rw[rint j];exact⟨i,rfl,c _ _ _ S (Ext.refl _ _) r (by unfold RepV;rfl) q⟩) hg hm eJ2 ha (by decide) (by decide) he hpl
end
def emitOfS(elt:Expr)(acc:ad)(env:Env):Sem Unit:=eval elt env>>=λx=>fF elt.pos>>=λ_=>call (.builtin "set.add") [acc,x]>>=λ_=>pure ()
theorem cQ7(elt target iter t2 i2:Expr)(ifs ifs2:List Expr)(scope:Scope)(pos:Pos)(it acc:ad)(env:Env) :
  fg (.SetComp elt [⟨target,iter,ifs,0⟩,⟨t2,i2,ifs2,0⟩] scope pos) 0 it acc env=aZa target ifs iter.pos (innerOf (.SetComp elt [⟨target,iter,ifs,0⟩,⟨t2,i2,ifs2,0⟩] scope pos) i2 acc env) (.compLoop (.SetComp elt [⟨target,iter,ifs,0⟩,⟨t2,i2,ifs2,0⟩] scope pos) 0 it acc env) it env:=by
 unfold aZa bQm innerOf;show(fF iter.pos>>=λ_=>eL it>>=λr=>_)=_;refine bind_congr λ_=>bind_congr λr=>?_;cases r with
 |none=>rfl
 |some v =>
  show(eU target it v>>=λ_=>i7 target env v>>=λ_=>(forIn ifs true _>>=λok=>_))=_;refine bind_congr λ_=>bind_congr λ_=>bind_congr λok=>?_;cases ok with
  |false=>rfl
  |true =>
   simp only[bind_assoc,pure_bind]
   rfl
theorem cQ8(elt target iter t2 i2:Expr)(ifs ifs2:List Expr)(scope:Scope)(pos:Pos)(it acc:ad)(env:Env) :
  fg (.SetComp elt [⟨target,iter,ifs,0⟩,⟨t2,i2,ifs2,0⟩] scope pos) 1 it acc env=aZa t2 ifs2 i2.pos (emitOfS elt acc env) (.compLoop (.SetComp elt [⟨target,iter,ifs,0⟩,⟨t2,i2,ifs2,0⟩] scope pos) 1 it acc env) it env:=by
 unfold aZa bQm emitOfS;show(fF i2.pos>>=λ_=>eL it>>=λr=>_)=_;refine bind_congr λ_=>bind_congr λr=>?_;cases r with
 |none=>rfl
 |some v =>
  show(eU t2 it v>>=λ_=>i7 t2 env v>>=λ_=>(forIn ifs2 true _>>=λok=>_))=_;refine bind_congr λ_=>bind_congr λ_=>bind_congr λok=>?_;cases ok <;> rfl
def TKp(H H':Hp):Prop:=∀a xs,Rd H a (.tup xs)->Rd H' a (.tup xs)
abbrev PVk{κ:Type}(rp:Hp->V->κ->Prop)(H:Hp):ad->V×κ->Prop:=λv p=>RelV p.1 v/\rp H p.1 p.2
structure SKn(P:aE)(w:aQ)(K:Fg)(κ:Type) where
 kd:Hp->ST.SetKd P w κ
 rp:Hp->V->κ->Prop
 pI:Array (Int×ad)->cB->List κ->Prop
 toI:∀{X:Cx}{pins σ H s p es ep t} {ps:List (V×κ)},X.prog=P->X.w=w->X.K=K->Inv X pins σ H s->s.heap.get? p=some (ST.setOb es ep t)->pI es t (ps.map (·.2))->bG (PVk rp H) (es.toList.map (·.2)) ps ->
  (kd H).I s.heap p es ep t/\bG (λ(e:Int×ad) k=>(kd H).is s.heap k e.2) es.toList (ps.map (·.2))
 toIs:∀{X:Cx}{pins σ H s} {x:V}{v:ad}{k:κ},X.prog=P->X.w=w->X.K=K->Inv X pins σ H s->RelV x v->rp H x k->(kd H).is s.heap k v
 ofI:∀{H:Hp}{h:aX}{p es ep t} {ks:List κ},(kd H).I h p es ep t->ks.Nodup->bG (λ(e:Int×ad) k=>(kd H).is h k e.2) es.toList ks->∃ps:List (V×κ),bG (PVk rp H) (es.toList.map (·.2)) ps/\ps.map (·.2)=ks/\pI es t ks
 fr:∀led,pI #[] (.fresh 0 0 led) []
 mo:∀{H H':Hp}{v:V}{k:κ},TKp H H'->rp H v k->rp H' v k
def StV{P:aE}{w:aQ}{K:Fg}{κ:Type}(kn:SKn P w K κ)(H:Hp)(p:Addr)(acc:List κ):Prop:=∃es ep t,∃ps:List (V×κ),H p=some (stO p es ep t)/\t.led=ST.ledOf w/\kn.pI es t (ps.map (·.2))/\bG (PVk kn.rp H) (es.toList.map (·.2)) ps/\(ps.map (·.2)).Nodup/\∀k,k∈ps.map (·.2)↔k∈acc
theorem StV.keep{P:aE}{w:aQ}{K:Fg}{κ:Type}{kn:SKn P w K κ}{H H':Hp}{p:Addr}{acc:List κ}(h:StV kn H p acc)(e:H' p=H p)(t:TKp H H'):StV kn H' p acc:=by
 obtain⟨es,L,tb,ps,h1,h2,J,D,B,j⟩:=h;exact⟨es,L,tb,ps,e.trans h1,h2,J,Paired.imp (λ_ _ z=>⟨z.1,kn.mo t z.2⟩) D,B,j⟩
theorem StV.at{P:aE}{w:aQ}{K:Fg}{κ:Type}{kn:SKn P w K κ}{H:Hp}{p:Addr}{acc:List κ}(h:StV kn H p acc):∃φ,H p=some (.ext φ):=by
 obtain⟨es,j,tb,ps,h1,_⟩:=h;exact⟨_,h1⟩
theorem dJ1{H:Hp}{p:Addr}{φ:aX->Prop}{o:HO}(h:H p=some (.ext φ)):TKp H (upd H p o):=λa xs r=>by
 have:a≠p:=by
  rintro rfl;rcases r with r|⟨o,r⟩ <;> rw[h] at r <;> cases r
 rcases r with r|⟨o',r⟩
 ·exact .inl (by rw[upd_ne this];exact r)
 ·exact .inr ⟨o',by rw[upd_ne this];exact r⟩
section
variable{X:Cx}{K:Fg}{κ:Type}[DecidableEq κ]
def cX9{P:aE}{w:aQ}(kn:SKn P w K κ)(p:Addr)(te:TE):TB:=fun σ H N=>te σ H λy H4=>∃acc k,StV kn H4 p acc/\kn.rp H4 y k/\acc.length+1<=300/\∀φ,StV kn (upd H4 p (.ext φ)) p (acc++[k])->N (upd H4 p (.ext φ))
theorem dQ2{P:aE}{w:aQ}{kn:SKn P w K κ}{elt:Expr}{te:TE}{p:Addr}(hxe:X.xe=λ_ _=>False)(hu:X.A.units+1<de)(hP:X.prog=P)(hw:X.w=w)(hK:X.K=K)(he:PE X elt te):PB X (emitOfS elt (.ref p) X.env) (cX9 kn p te):=by
 intro pins s σ H N I h;unfold emitOfS;have h1:=he pins s σ H _ I h;rw[hxe] at h1;refine aa (thn h1 λy s1 ⟨v,H1,I1,r1,acc,k,st,rk,hn,n⟩=>aa (fD (aa ?_)));obtain⟨es,ep,t,ps,hp,hled,hpi,hpp,hnd,hmem⟩:=id st;subst hP hw;obtain⟨ho,_⟩:=I1.hok p _ hp;obtain⟨i1,i2⟩:=kn.toI rfl rfl hK I1 ho hpi hpp;have isk:=kn.toIs rfl rfl hK I1 r1 rk;have M:ST.Mem (kn.kd H1) s1.heap p acc (ST.ledOf X.w) (ps.map (·.2)):=⟨⟨es,ep,t,i1,hled,i2⟩,hnd,hmem⟩;refine cD F.slot_set_add ⟨_,ho,rfl⟩ F.entry_set_add ?_ (F.args_set_add_2 _ _);unfold bU.«set.add» bU.Frozenset.oneOther;simp only[iR,bind_assoc];unfold iE;refine aa (ae ?_)
 try dsimp only
 refine aa (ae ?_)
 try dsimp only
 refine aa ?_;refine ST.addM (kn.kd H1) (show X.A.units+1<de by omega) M isk (by have:=M.size;omega) λh' tk ks' M' sb kp tk'=>?_
 show aF _ _ (ret cL) _ _ _;refine ae ⟨_,rfl,ae ?_⟩;obtain⟨J,L,t',O,B,i2'⟩:=M'.ex;obtain⟨ps',Y,D,Z⟩:=kn.ofI O M'.nd i2';have j:=(kn.kd H1).obj O;have I2:Inv X pins σ (upd H1 p (stO p J L t')) {s1 with heap:=h',toks:=tk}:=I1.write (x:=p) (e:=p) (by rw[hp];exact trivial) (.inl rfl) (λb u hb hu=>(sb.2 b hb).trans hu) ⟨_,j⟩ ⟨j,⟨_,j⟩,λg1 g2 g k=>k _ g⟩
 have tk1:TKp H1 (upd H1 p (stO p J L t')):=dJ1 hp;refine⟨σ,_,I2,Wk.refl σ,n _ ⟨J,L,t',ps',aQ9,B,by rw[D];exact Z,Paired.imp (λ_ _ z=>⟨z.1,kn.mo tk1 z.2⟩) Y,by rw[D];exact M'.nd,by rw[D];exact M'.mem⟩⟩
end
end L2
namespace ST
open PySem PySem.SetTable PySem.Spec PyProof.Rows
end ST
namespace L2
open PySem PySem.Spec PyProof.Rows
def cQ9(P:aE)(w:aQ)(K:Fg):SKn P w K Str where
 kd:=λ_=>ST.strKd P w
 rp:=λ_ v k=>v=.str k
 pI:=λes t _=>t.fits es.size=true/\ElemsOf (gG P w) es.toList/\(t.plain=true->es=#[])
 toI:=λ{X pins σ H s p es ep t ps} _ _ _ _ ho hpi hp=>⟨⟨ho,hpi⟩,by
  generalize es.toList=l at hp
  induction l generalizing ps with
  |nil=>cases hp;exact .nil
  |cons e l ih =>
   cases hp with
   |cons h1 h2 =>
    refine .cons ?_ (ih h2);obtain⟨r,e1⟩:=h1;rw[e1] at r;obtain⟨t',e2⟩:=r;have e2:e.2=_:=e2;show eX _ e.2=true;rw[e2];simp[eX]⟩
 toIs:=λ{X pins σ H s x v k} _ _ _ _ r e=>by
  rw[e] at r;obtain⟨t',e2⟩:=r;rw[e2];have z:eX k (ad.str k t')=true:=by simp[eX]
  exact z
 ofI:=λ{H h p es ep t ks} hI nd hp=>by
  clear nd;refine(λ⟨ps,a,b⟩=>⟨ps,a,b,hI.2⟩) (?_:∃ps:List (V×Str),bG (PVk (λ_ v k=>v=.str k) H) (es.toList.map (·.2)) ps/\ps.map (·.2)=ks);generalize es.toList=l at hp
  induction l generalizing ks with
  |nil=>cases hp;exact⟨[],.nil,rfl⟩
  |cons e l ih =>
   cases hp with
   |cons h1 h2 =>
    obtain⟨ps,a,b⟩:=ih h2;obtain⟨tk,e1⟩:=gO (show eX _ e.2=true from h1)
    exact⟨(.str _,_)::ps,.cons ⟨⟨tk,e1⟩,rfl⟩ a,by rw[bg,b]⟩
 fr:=λled=>⟨rfl,ST.empty_el,λ_=>rfl⟩
 mo:=λ_ h=>h
theorem bQy{prog:aE}{w:aQ}{A:aW}{R:Result->ah->Prop}{s:ah}{elt target iter:Expr}{ifs:List Expr}{rest:List eY}{scope:Scope}{pos:Pos}{it acc:ad}{env:Env}
  (h0:eN (aB prog w) A (.compLoop (.SetComp elt (⟨target,iter,ifs,0⟩::rest) scope pos) 0 it acc env) R s)
  (h:aF (aB prog w) A (pyIter it) (λit' s'=>eN (aB prog w) A (.compLoop (.SetComp elt (⟨target,iter,ifs,0⟩::rest) scope pos) 0 it' acc env) R s')
   (notedBy (aB prog w) A env λx s'=>R (.error x) s') s) :
  eN (aB prog w) A (.compStart (.SetComp elt (⟨target,iter,ifs,0⟩::rest) scope pos) 0 it acc env) R s:=by
 refine codeAny_of_tree ?_;show aF _ _ ((compStart (.SetComp elt (⟨target,iter,ifs,0⟩::rest) scope pos) 0 it acc env).onRaise (λx=>do noteFrame x env;fF theWindowsPlace)) _ _ s
 refine wpAny_notedAt ?_;unfold compStart;show aF _ _ (ask>>=_) _ _ s;refine aa (dw (wpAny_ite ?_))
 split
 ·first
   |exact aa (ae (ae (iL rfl h0)))
   |exact ae (iL rfl h0)
 ·refine aa (cx ?_);show aF _ _ (fF iter.pos>>=_) _ _ s;exact aa (fD (aa (cj h (λit' s' h'=>ae (iL rfl h')) λ_ _ x=>x)))
section
variable{X:Cx}{K:Fg}{κ:Type}{pins:List (Addr×Obj)}{σ:St}{H:Hp}{s:ah}
def bQz{P:aE}{w:aQ}(kn:SKn P w K κ)(is:List (Option Nat))(wi:TI)(g:TG)(tt:TT)(tb:Addr->TB):TE:=fun σ H Q=>wi σ H λJ H1=>∀p,H1 p=none->∀φ,StV kn (upd H1 p (.ext φ)) p []->bX9 J (capt is σ) g tt (tb p) (Q (.ref p)) (upd H1 p (.ext φ))
theorem comp_genS{P:aE}{w:aQ}{kn:SKn P w K κ}(hw:X.w=w){elt target iter:Expr}{ifs:List Expr}{gs:List eY}{scope:Scope}{pos:Pos}{N':List Str}{is:List (Option Nat)}{wi:TI}{g:TG}{tt:TT}{tb:Addr->TB}{oc:Option Str}{m:ad->Env->Sem Unit}(hcalm:X.calm=true)(hN:X.N.Nodup)
  (hturn:∀it acc env,fg (.SetComp elt (⟨target,iter,ifs,0⟩::gs) scope pos) 0 it acc env=aZa target ifs iter.pos (m acc env) (.compLoop (.SetComp elt (⟨target,iter,ifs,0⟩::gs) scope pos) 0 it acc env) it env)
  (cp:Cap X.N scope N' is) (hi:PI X target iter wi)
  (hg:∀cl C fp s H,PG (aQk X N' scope cl C fp s H oc) target g) (ht:∀cl C fp s H,PTs (aQk X N' scope cl C fp s H oc) ifs tt) (hb:∀cl C fp s H D,PB (aQk X N' scope cl C fp s H oc) (m (.ref D) (iM scope cl C X.env)) (tb D))
  (hcf:∀n acc,fu n scope.names acc=ocl oc n acc) (hpc:∀h,gW h scope.names=ohp oc h)
  (hkind:scope.kind=.function) (hcell:∀y∈scope.names,y.2=.cell->oc=some y.1)
  (hu:∀y∈scope.names,scope.names.lookup y.1=some y.2) (hoc:∀x,oc=some x->scope.names.lookup x=some .cell)
  (hVb:okV scope.names X.env.scope.names=true)
  (hs:∀x,cH iter X.env x=pure x)
  {use:Option (ad->Sem Unit)}{Q:VK}{Qv:ad->ah->Prop}(I:Inv X pins σ H s) (h:bQz kn is wi g tt tb σ H Q)
  (fin:∀D C H5 s6,Inv X pins σ H5 s6->(∃m,s6.heap.Ns C m)->FrC X pins C H5->Q (.ref D) H5->compPost (aB X.prog X.w) X.A X.xe use Qv (.ref D) C (.ok .next) s6) :
  aF (aB X.prog X.w) X.A (comprehension (.SetComp elt (⟨target,iter,ifs,0⟩::gs) scope pos) scope X.env (firstIterPos (⟨target,iter,ifs,0⟩::gs) pos) (newSet (.type "set")) (firstAsync (⟨target,iter,ifs,0⟩::gs)) (firstIter (⟨target,iter,ifs,0⟩::gs) X.env) use) Qv X.xe s:=by
 have hV:=dQm hVb;have hV':∀x,(x,aT)∈scope.names->Vis X.env.scope x/\X.env.scope.names.lookup x≠some .local:=λx j=>hV (x,.free) j rfl;have hu':∀x,(x,aT)∈scope.names->scope.names.lookup x=some .free:=λx j=>hu (x,.free) j;have B:∀x∈scope.names,x.2=.local->scope.names.lookup x.1=some .local:=λx j hl=>by rw[hu x j,hl]
 obtain⟨cl,O,c1,c2,c3⟩:=aX9 (env:=X.env) (scope:=scope) λx j=>I.ok.has x (by
  obtain⟨v,n⟩:=hV' x j;rcases v with v|v|v
  ·exact absurd v n
  ·exact .inl v
  ·exact .inr v)
 have hun:∀x,oc=some x->cl.lookup x=none:=λx j=>by
  cases e:cl.lookup x with
  |none=>rfl
  |some c =>
   have:=hu' x (c3 x c e)
   rw[hoc x j] at this;cases this
 refine wpAny_comprehension_free (use:=use) rfl hs O hkind B (thn (hi pins s σ H _ I h) λv s1 h1=>thn h1 λitv s2 h2=>?_);obtain⟨it,fp,tn,J,H2,rfl,I2,T,st2,f2,q2⟩:=h2;unfold newSet jd;refine aa (aa (dw (ae ?_)));dsimp only;refine bd ?_;have hD:H2 s2.heap.objs.size=none:=I2.hok.fresh (Nat.le_refl _);have fpl:∀b∈fp,b<s2.heap.objs.size:=λb hb=>by obtain⟨o,e,_⟩:=T.obj _ _ st2 b hb;exact aA e
 have led:(!(X.w.params.followText "set-order"))=ST.ledOf X.w:=rfl;have Y:Inv X pins σ (upd H2 s2.heap.objs.size (stO s2.heap.objs.size #[] 0 (.fresh 0 0 (ST.ledOf X.w)))) {s2 with heap:=s2.heap.push (ST.setOb #[] 0 (.fresh 0 0 (ST.ledOf X.w)))} :=
  I2.laid (t':=s2.toks) (λb u e=>af _ e) (Nat.le_refl _) ⟨aq _ rfl,⟨_,aq _ rfl⟩,λg1 g2 g k=>k _ g⟩
 have st3:tn 0 (s2.heap.push (ST.setOb #[] 0 (.fresh 0 0 (ST.ledOf X.w)))):=T.keep _ _ _ st2 λb hb o e=>af _ e;have Z:∀b∈fp,FpOk X pins (upd H2 s2.heap.objs.size (stO s2.heap.objs.size #[] 0 (.fresh 0 0 (ST.ledOf X.w)))) b:=λb hb=>⟨by rw[upd_ne (Nat.ne_of_lt (fpl b hb))];exact(f2 b hb).1,(f2 b hb).2⟩
 have L:∀b∈fp,b<(s2.heap.push (ST.setOb #[] 0 (.fresh 0 0 (ST.ledOf X.w)))).objs.size:=λb hb=>by rw[cZ];exact Nat.lt_succ_of_lt (fpl b hb)
 have q3:=q2 _ hD _ (⟨#[],0,_,[],aQ9,by rw[<- hw];rfl,kn.fr _,.nil,fk,λ_=>Iff.rfl⟩:StV kn (upd H2 s2.heap.objs.size (stO s2.heap.objs.size #[] 0 (.fresh 0 0 (ST.ledOf X.w)))) _ [])
 show aF (aB X.prog X.w) X.A _ _ X.xe {s2 with heap:=s2.heap.push (ST.setOb #[] 0 (.fresh 0 0 (ST.ledOf X.w)))}
 change bX9 _ _ _ _ _ _ (upd H2 s2.heap.objs.size (stO s2.heap.objs.size #[] 0 (.fresh 0 0 (ST.ledOf X.w)))) at q3;generalize hob:ST.setOb #[] 0 (.fresh 0 0 (ST.ledOf X.w))=ob at *
 generalize hso:stO s2.heap.objs.size #[] 0 (.fresh 0 0 (ST.ledOf X.w))=so at *
 generalize hDe:s2.heap.objs.size=D at *
 generalize hs3:({s2 with heap:=s2.heap.push ob}:ah)=s3 at *
 have hsh:s3.heap=s2.heap.push ob:=by rw[<- hs3]
 rw[<- hsh] at st3 L;have ok:=bQ8 (N':=N') (cl:=cl) (oc:=oc) Y Z L hkind c1 c2 hcell hun;have I4:=aJo Y ok hN c1 c2 hu' cp hV' hun;refine cZ0 ?_;rw[hcf,hpc];have kp:∀b o,s3.heap.get? b=some o->(ohp oc (s3.heap.push {cls:=.type "dict",data:=.dict #[]})).get? b=some o:=λb o e=>aJd (af _ e);have st4:tn 0 (ohp oc (s3.heap.push {cls:=.type "dict",data:=.dict #[]})):=T.keep _ _ _ st3 λb _ o e=>kp b o e;have f4:∀b∈fp,FpOk (aQk X N' scope (ocl oc (s3.heap.objs.size+1) cl) s3.heap.objs.size fp s3 (upd H2 D so) oc) [] (upd H2 D so) b:=λb hb =>
  ⟨(Z b hb).1,(ok.exf b hb).1,ok.exfs b hb,.inl hb,(ok.exf b hb).2,λp hp=>absurd (show p∈([]:List (Addr×Obj)) from hp) (by simp)⟩
 have loop:=bQn (X:=aQk X N' scope (ocl oc (s3.heap.objs.size+1) cl) s3.heap.objs.size fp s3 (upd H2 D so) oc) (e:=.SetComp elt (⟨target,iter,ifs,0⟩::gs) scope pos) (d:=0) (acc:=.ref D)
  (R:=compPost (aB X.prog X.w) X.A X.xe use Qv (.ref D) s3.heap.objs.size) hcalm rfl (hturn _ _ _) rfl rfl T (hg _ _ _ _ _) (ht _ _ _ _ _) (hb _ _ _ _ _ D) I4 st4 f4 q3 (by
   intro H5 s6 I6 _ qn;obtain⟨m6,n6,_⟩:=id I6.loc;have un:Un (frs X.stack) fp (upd H2 D so) H5 s3.heap s6.heap:=I6.base;have hok':HOk X.prog X.w H5 s6.heap:=I6.hok;refine fin D s3.heap.objs.size H5 s6 (Y.call' (s':=s6) (ch:=fp) I6.os un hok' I6.bare λb hb=>⟨(Z b hb).2.2.2.1,(Z b hb).2.1,(Z b hb).2.2.2.2.1,(Z b hb).2.2.2.2.2⟩) ⟨m6,n6⟩ ⟨I6.free,Nat.ne_of_gt Y.lt,Y.sz,λx c e z=>?_,λp hp z=>?_⟩ qn
   ·obtain⟨v,q⟩:=Y.cell x c e;exact absurd q.lt (by rw[z];exact Nat.lt_irrefl _)
   ·exact absurd (aA (Y.pin p hp).1) (by rw[z];exact Nat.lt_irrefl _))
 exact bQy loop (T.self _ 0 _ _ _ st4 loop)
theorem cXa{P:aE}{w:aQ}{kn:SKn P w K κ}{elt target iter:Expr}{ifs:List Expr}{gs:List eY}{scope:Scope}{pos:Pos}{N':List Str}{is:List (Option Nat)}{wi:TI}{g:TG}{tt:TT}{tb:Addr->TB}{oc:Option Str}{m:ad->Env->Sem Unit}(hw:X.w=w)(hcalm:X.calm=true)(hN:X.N.Nodup)
  (hturn:∀it acc env,fg (.SetComp elt (⟨target,iter,ifs,0⟩::gs) scope pos) 0 it acc env=aZa target ifs iter.pos (m acc env) (.compLoop (.SetComp elt (⟨target,iter,ifs,0⟩::gs) scope pos) 0 it acc env) it env)
  (cp:Cap X.N scope N' is) (hi:PI X target iter wi)
  (hg:∀cl C fp s H,PG (aQk X N' scope cl C fp s H oc) target g) (ht:∀cl C fp s H,PTs (aQk X N' scope cl C fp s H oc) ifs tt) (hb:∀cl C fp s H D,PB (aQk X N' scope cl C fp s H oc) (m (.ref D) (iM scope cl C X.env)) (tb D))
  (hcf:∀n acc,fu n scope.names acc=ocl oc n acc:=by intro _ _;rfl) (hpc:∀h,gW h scope.names=ohp oc h:=by intro _;rfl)
  (hkind:scope.kind=.function:=by rfl) (hcell:∀y∈scope.names,y.2=.cell->oc=some y.1:=by decide +kernel)
  (hu:∀y∈scope.names,scope.names.lookup y.1=some y.2:=by decide +kernel) (hoc:∀x,oc=some x->scope.names.lookup x=some .cell:=by intro x h;cases h <;> rfl)
  (hVb:okV scope.names X.env.scope.names=true:=by first|rfl|kernel_rfl)
  (hs:∀x,cH iter X.env x=pure x:=by intro _;rfl) :
  PE X (.SetComp elt (⟨target,iter,ifs,0⟩::gs) scope pos) (bQz kn is wi g tt tb):=by
 intro pins s σ H Q I h;rw[arm_eval_SetComp];refine comp_genS hw hcalm hN hturn cp hi hg ht hb hcf hpc hkind hcell hu hoc hVb hs I h λD C O Y L ⟨m,n⟩ J B=>?_;exact⟨m,n,λh' j=>⟨.ref D,O,J.gone L j,rfl,B⟩⟩
end
section
variable{X:Cx}{K:Fg}{pos:Pos}{k:Nat}{κ:Type}
theorem dJ2{F:Am}{S S':Sto}{H H':Hp}(r:Rp K F S H)(x:Ext S H S' H'):TKp H H':=λa xs h=>by
 have j:S a=none:=ba λn=>r.ntup h (.inl n);rcases h with h|⟨o,h⟩
 ·exact .inl (x.keep _ _ j h)
 ·exact .inr ⟨o,x.keep _ _ j h⟩
def aXf{P:aE}{w:aQ}(kn:SKn P w K κ)(enc:κ->D)(L:List Nat)(tv:Addr->TB)(td:BD):Prop:=∀D' F S H Γ σ acc N QD,Free L σ->F D'->Rp K F S H->RepG K (mt S F) H Γ σ->StV kn H D' acc->td Γ S (acc.map enc) QD ->
 (∀acc' S' H',ExtX D' S H S' H'->Rp K F S' H'->StV kn H' D' acc'->QD (acc'.map enc) S'->N H')->tv D' σ H N
def eJ3(enc:κ->D)(te:ED):BD:=fun Γ S acc Q=>te Γ S λy S1=>∃k,y=enc k/\acc.length+1<=300/\Q (acc++[y]) S1
theorem extx_upd{D':Addr}{S:Sto}{H:Hp}{o:HO}:ExtX D' S H S (upd H D' o):=⟨λa o n _ e=>by rw[upd_ne n];exact e,λa h=>by
  by_cases e:a=D'
  ·subst e;rw[aQ9];exact λz=>by cases z
  ·rw[upd_ne e];exact h,λa h=>.inl h⟩
theorem dJ3{D':Addr}{F:Am}{S:Sto}{H:Hp}{o:HO}(r:Rp K F S H)(hF:F D')(ho:Clt o):Rp K F S (upd H D' o) :=
 ⟨λa u e=>(r.obj a u e).keep (extx_upd.kp hF) (upd_ne (by rintro rfl;rw[(r.frm a hF).2] at e;cases e)),λa h=>by
   obtain⟨⟨ys,e,ct⟩,h2⟩:=r.frm a h
   by_cases z:a=D'
   ·subst z;exact⟨⟨_,aQ9,ho⟩,h2⟩
   ·exact⟨⟨ys,by rw[upd_ne z];exact e,ct⟩,h2⟩⟩
theorem dQ3{P:aE}{w:aQ}{kn:SKn P w K κ}{enc:κ->D}(hrep:∀M H k v,RepV K M H (enc k) v->kn.rp H v k){L:List Nat}{te:ED}:aXf kn enc L (λD'=>cX9 kn D' (upE K te)) (eJ3 enc te):=by
 intro D' F S H Γ σ acc N QD _ O r g st q c;refine⟨F,S,Γ,_,r,g,q,λv d H1 S1 j Y v1 ⟨k,e,hz,Z⟩=>?_⟩;have hS:S D'=none:=(r.frm D' O).2;obtain⟨φ0,h0⟩:=st.at
 have e1:H1 D'=H D':=by rw[h0];exact j.keep _ _ hS h0
 have J:StV kn H1 D' acc:=st.keep e1 (dJ2 r j);subst e;refine⟨acc,k,J,hrep _ _ _ _ v1,by simpa using hz,fun φ B=>c (acc++[k]) S1 _ (j.x.trans extx_upd) (dJ3 Y O trivial) B (by rw[b9];exact Z)⟩
theorem bJi{P:aE}{w:aQ}{kn:SKn P w K κ}{enc:κ->D}{L L':List Nat}{g:TG}{gd:GD}{tt:TD}{tv:Addr->TB}{tb:BD}(hg:CG K L L' g gd)(hb:aXf kn enc L' tv tb){D':Addr}{F:Am}{S:Sto}{H:Hp}{Γ:Gm}{σ:St}{acc:List κ}{N:Hp->Prop}{QD:List D->Sto->Prop}{J:It}{xs:List D}{G:Sto->Prop}
  (f:Free L σ) (hF:F D') (r:Rp K F S H) (gm:RepG K (mt S F) H Γ σ) (st:StV kn H D' acc) (it:∀S2 H2,ExtX D' S H S2 H2->Rp K F S2 H2->G S2->(∀i d,xs[i]?=some d->J.go i H2/\∀x H3,J.yld i H2 x H3->Ext S2 H2 S2 H3/\Rp K F S2 H3/\RepV K (mt S2 F) H3 d x)/\J.stop xs.length H2)
  (q:aZ7 gd tt tb G Γ xs (acc.map enc) S QD) (c:∀acc' S' H',ExtX D' S H S' H'->Rp K F S' H'->StV kn H' D' acc'->QD (acc'.map enc) S'->N H'):bX9 J σ g (upT K tt) (tv D') N H:=by
 refine⟨λi m H'=>m=xs.length-i/\i<=xs.length/\∃S' acc',ExtX D' S H S' H'/\Rp K F S' H'/\StV kn H' D' acc'/\aZ7 gd tt tb G Γ (xs.drop i) (acc'.map enc) S' QD,⟨xs.length,by simp,Nat.zero_le _,S,acc,(Ext.refl _ _).x,r,st,by simpa using q⟩,?_⟩
 rintro i m H' ⟨rfl,hi,S',acc',x2,r2,Y,f2⟩;have g2:=gm.keep (x2.kp hF)
 by_cases Z:i<xs.length
 ·rw[aX0 Z] at f2;obtain⟨hG,f2⟩:=f2;obtain⟨hgo,hy⟩:=(it S' H' x2 r2 hG).1 i xs[i] (ag Z);refine .inr ⟨hgo,λB=>∃S'' j,ExtX D' S H S'' B/\Rp K F S'' B/\StV kn B D' j/\aZ7 gd tt tb G Γ (xs.drop (i+1)) (j.map enc) S'' QD,λB z=>⟨xs.length-(i+1),by omega,rfl,Z,z⟩,λx H3 y3=>?_⟩
  obtain⟨x3,r3,v3⟩:=hy x H3 y3;refine hg F S' H3 Γ σ xs[i] x _ _ f r3 (g2.ext x3) v3 f2 fun Γ4 S4 σ4 H4 x4 r4 g4 wk fr4 q4=>⟨wk,F,S4,Γ4,_,r4,g4,q4,λz H5 S5 x5 r5 q5=>?_⟩;have O:=x3.trans (x4.trans x5);obtain⟨φ0,h0⟩:=Y.at
  have h5:H5 D'=H' D':=by rw[h0];exact O.keep _ _ (r2.frm D' hF).2 h0
  have st5:StV kn H5 D' acc':=Y.keep h5 (dJ2 r2 O);have x05:ExtX D' S H S5 H5:=x2.trans O.x;cases z with
  |false=>exact⟨S5,acc',x05,r5,st5,q5⟩
  |true=>exact hb D' F S5 H5 Γ4 σ4 acc' _ _ fr4 hF r5 (g4.ext x5) st5 q5 λacc6 S6 H6 x6 r6 st6 q6=>⟨S6,acc6,x05.trans x6,r6,st6,q6⟩
 ·have e:i=xs.length:=by omega
  subst e;rw[eE] at f2;exact .inl ⟨(it S' H' x2 r2 f2.1).2,c acc' S' H' x2 r2 Y f2.2⟩
theorem cXb{P:aE}{w:aQ}{kn:SKn P w K κ}{enc:κ->D}{L L':List Nat}{wi:ID}{g:TG}{gd:GD}{tt:TD}{tv:Addr->TB}{tb:BD}(hg:CG K L L' g gd)(hb:aXf kn enc L' tv tb):aXf kn enc L (λD'=>dQo (upI K wi) g (upT K tt) (tv D')) (eXg wi gd tt tb):=by
 intro D' F S H Γ σ acc N QD fr Y r gm st q c;refine⟨F,S,Γ,_,r,gm,q,λJ xs G H1 S1 O r1 it q1=>?_⟩;obtain⟨φ0,h0⟩:=st.at
 have h1:H1 D'=H D':=by rw[h0];exact O.keep _ _ (r.frm D' Y).2 h0
 exact bJi hg hb fr Y r1 (gm.ext O) (st.keep h1 (dJ2 r O)) (λS2 H2 B Z hG=>⟨it.go F (FE.refl _ _) S2 H2 (B.w Y) Z hG,it.stop F (FE.refl _ _) S2 H2 (B.w Y) Z hG⟩) q1 λj S' H' B=>c j S' H' (O.x.trans B)
theorem dQ4{P:aE}{w:aQ}{kn:SKn P w K κ}{enc:κ->D}{L L':List Nat}{is:List (Option Nat)}{wi:ID}{g:TG}{gd:GD}{tt:TD}{tv:Addr->TB}{tb:BD}(hL:∀σ,Free L (capt is σ))(hg:CG K L L' g gd)(hb:aXf kn enc L' tv tb)
  {σ:St}{H:Hp}{Q:VK}{F:Am}{S:Sto}{Γ:Gm}{QD:List D->Sto->Prop}(r:Rp K F S H) (gm:RepG K (mt S F) H Γ σ) (q:wi Γ S λxs G S1=>aZ7 gd tt tb G (cZo is Γ) xs [] S1 QD)
  (c:∀p ks H' S',Ext S H S' H'->Rp K F S' H'->StV kn H' p ks->QD (ks.map enc) S'->Q (.ref p) H'):bQz kn is (upI K wi) g (upT K tt) tv σ H Q :=
 ⟨F,S,Γ,_,r,gm,q,λJ xs G H1 S1 x1 Z it q1 D' j φ st=>by
  have N:S1 D'=none:=Z.sn j;have fe:FE F H1 (λa=>F a\/a=D'):=λa h=>h.elim .inl λe=>.inr (by rw[e];exact j)
  have nF:¬ F D':=λh=>by
   obtain⟨⟨ys,e,_⟩,_⟩:=Z.frm D' h;rw[j] at e;cases e
  have xe:Ext S1 H1 S1 (upd H1 D' (.ext φ)):=Ext.same (aX5 j);have kp:Keep (mt S1 F) H1 (mt S1 λa=>F a\/a=D') (upd H1 D' (.ext φ)):=xe.w.kpF fe;have Y:Rp K (λa=>F a\/a=D') S1 (upd H1 D' (.ext φ)):=⟨λa o e=>(Z.obj a o e).keep kp (upd_ne (by rintro rfl;rw[N] at e;cases e)),λa h=>by
   rcases h with h|h
   ·obtain⟨⟨ys,e,ct⟩,h2⟩:=Z.frm a h;exact⟨⟨ys,by rw[upd_ne (by rintro rfl;rw[j] at e;cases e)];exact e,ct⟩,h2⟩
   ·subst h;exact⟨⟨_,aQ9,trivial⟩,N⟩⟩
  have old:∀ {B H2},ExtX D' S1 (upd H1 D' (.ext φ)) B H2->Ext S1 H1 B H2:=λ{B H2} y=>⟨λa o h e=>y.keep a o (by rintro rfl;rw[j] at e;cases e) h (by rw[upd_ne (by rintro rfl;rw[j] at e;cases e)];exact e),λa h=>y.live a (xe.live a h),λa h=>by
   rcases y.new a h with z|z
   ·exact .inl z
   ·by_cases e:a=D'
    ·subst e;exact .inr j
    ·rw[upd_ne e] at z;exact .inr z⟩
  refine bJi hg hb (hL σ) (F:=λa=>F a\/a=D') (.inr rfl) Y ((gm.ext x1).keep kp |>.capt is) st (λB H2 y Y hG=>⟨it.go _ fe B H2 (old y).w Y hG,it.stop _ fe B H2 (old y).w Y hG⟩) q1 λO S' H' y r3 st3 q3=>?_
  have less:Keep (mt S' λa=>F a\/a=D') H' (mt S' F) H':=⟨λ_ _ _ e=>e,λa h _=>λz=>h (z.elim .inl λw=>.inr (.inl w))⟩;have r4:Rp K F S' H':=⟨λa o e=>(r3.obj a o e).keep less rfl,λa h=>r3.frm a (.inl h)⟩;exact c D' O H' S' (x1.trans (old y)) r4 st3 q3⟩
def srtC(enc:κ->D)(lt:κ->κ->Bool)(b:Bool)(is:List (Option Nat))(wi:ID)(g:GD)(tt:TD)(tb:BD):ED:=fun Γ S Q=>wi Γ S λxs G S1=>aZ7 g tt tb G (cZo is Γ) xs [] S1 λacc S2=>∃ks:List κ,acc=ks.map enc/\∀out:List κ,out.Nodup->(∀t,t∈out↔t∈ks)->out.length<300/\(out.Pairwise (λa b=>lt a b=true)->newL b (out.map enc) S2 Q)
theorem dJ4(M:Am)(H:Hp)(k:Str)(v:V)(h:RepV K M H (.str k) v):v=.str k:=by unfold RepV at h;exact h
theorem bZ0{α β:Type}{f:α->β}(hf:∀x y,f x=f y->x=y):∀{l m:List α},l.map f=m.map f->l=m
 |[],[],_=>rfl
 |[],_::_,h=>by cases h
 |_::_,[],h=>by cases h
 |x::l,y::m,h=>by
  rw[bg,bg] at h;injection h with h1 h2
  rw[hf _ _ h1,bZ0 hf h2]
theorem dQ5(x y:List Str)(h:tupS x=tupS y):x=y:=by
 unfold tupS at h;injection h with h
 exact bZ0 (λa b e=>by injection e) h
section
variable{elt target iter:Expr}{ifs:List Expr}{gs:List eY}{scope:Scope}{N':List Str}{is:List (Option Nat)}{wi:ID}{g:TG}{gd:GD}{tt:TD}{tv:Addr->TB}{tb:BD}{oc:Option Str}{m:ad->Env->Sem Unit}{b:Bool}{p pos':Pos}
theorem dJ5(L L':List Nat)(hr:Room k X.A)(hgl:Gl X "sorted")(hm:X.mg "sorted"=none)(hcalm:X.calm=true)(hN:X.N.Nodup)
  (hturn:∀it acc env,fg (.SetComp elt (⟨target,iter,ifs,0⟩::gs) scope pos') 0 it acc env=aZa target ifs iter.pos (m acc env) (.compLoop (.SetComp elt (⟨target,iter,ifs,0⟩::gs) scope pos') 0 it acc env) it env)
  (cp:Cap X.N scope N' is) (hL:∀σ,Free L (capt is σ)) (hi:PID K X target iter wi) (hgd:CG K L L' g gd)
  (hg:∀cl C fp s H,PG (aQk X N' scope cl C fp s H oc) target g) (ht:∀cl C fp s H,PTs (aQk X N' scope cl C fp s H oc) ifs (upT K tt)) (hbd:aXf (cQ9 X.prog X.w K) D.str L' tv tb) (hb:∀cl C fp s H D,PB (aQk X N' scope cl C fp s H oc) (m (.ref D) (iM scope cl C X.env)) (tv D))
  (hcf:∀n acc,fu n scope.names acc=ocl oc n acc:=by intro _ _;rfl) (hpc:∀h,gW h scope.names=ohp oc h:=by intro _;rfl)
  (hkind:scope.kind=.function:=by rfl) (hcell:∀y∈scope.names,y.2=.cell->oc=some y.1:=by decide +kernel)
  (hu:∀y∈scope.names,scope.names.lookup y.1=some y.2:=by decide +kernel) (hoc:∀x,oc=some x->scope.names.lookup x=some .cell:=by intro x h;cases h <;> rfl)
  (hVb:okV scope.names X.env.scope.names=true:=by first|rfl|kernel_rfl)
  (hs:∀x,cH iter X.env x=pure x:=by intro _;rfl)
  (h1:az [Expr.SetComp elt (⟨target,iter,ifs,0⟩::gs) scope pos'] X.env=(false,eval (Expr.SetComp elt (⟨target,iter,ifs,0⟩::gs) scope pos') X.env)::az [] X.env:=by rfl) (h3:(cq pos (az [] X.env)).any (·.1)=false:=by rfl) :
  PD K X (.Call (.Name "sorted" p) [.SetComp elt (⟨target,iter,ifs,0⟩::gs) scope pos'] [] pos) (srtC D.str HT.ltS b is wi gd tt tb) :=
 .of (bQj (bQx rfl hcalm) hgl hm bZi (cQp (cXa (kn:=cQ9 X.prog X.w K) rfl hcalm hN hturn cp hi.o hg ht hb hcf hpc hkind hcell hu hoc hVb hs) dQj h1) (by decide) (by decide) h1 h3) fun σ H Q z0=>z0.el λF S Γ QD r gm q c =>
  show bQz (cQ9 X.prog X.w K) is (upI K wi) g (upT K tt) tv σ H (λv H1=>cX8 X.w [v] H1 Q) from dQ4 hL hgd hbd r gm q λp' ks H' S' x1 r1 st z1=>by
   obtain⟨ks',hk,B⟩:=z1;have J:ks=ks':=bZ0 (λa b e=>by injection e) hk
   subst J;obtain⟨es,ep,t,ps,s1,s2,s3,s4,s5,j⟩:=st;obtain⟨Z,q3⟩:=B (ps.map (·.2)) s5 j;have sa:je (es.toList.map (·.2)) (ps.map (·.2)):=by
    clear Z q3 s5 j s3 B s1;generalize es.toList.map (·.2)=l at s4
    induction s4 with
    |nil=>exact .nil
    |@cons v q l2 ps h1 h2 ih =>
     obtain⟨h1,Y⟩:=h1;rw[Y] at h1;obtain⟨tk,e⟩:=h1;subst e;exact .cons _ _ ih
   refine⟨_,ps.map (·.2),rfl,⟨p',es,ep,t,rfl,s1,s3.1,s2,λz=>by rw[s3.2.2 z];exact Nat.zero_le _,sa⟩,s5,Z,λl out O pm pw=>?_⟩
   exact Cn.new (Cn.shift c x1) r1 O (eJ1 out) ((B out (pm.nodup_iff.mpr s5) λt=>(pm.mem_iff).trans (j t)).2 pw)
end
end
end L2
set_option maxHeartbeats 4000000
namespace HT
open PySem PyProof.Rows
end HT
namespace L2
open PySem PySem.Spec PyProof.Rows
def lexN(lt:D->D->Bool):List D->List D->Bool
 |[],[]=>false
 |[],_::_=>true
 |_::_,[]=>false
 |x::xs,y::ys=>if x=y then lexN lt xs ys else lt x y
def ltN:Nat->D->D->Bool
 |_,.int i,.int j=>decide (i<j)
 |_,.str x,.str y=>HT.ltS x y
 |n+1,.tup xs,.tup ys=>lexN (ltN n) xs ys
 |n+1,.lst xs,.lst ys=>lexN (ltN n) xs ys
 |_,_,_=>false
def okLs(ok:D->D->Bool)(n:Nat):List D->List D->Bool
 |x::xs,y::ys=>okE n x y&&(if x=y then okLs ok n xs ys else ok x y)
 |_,_=>true
def okL:Nat->D->D->Bool
 |_,.int _,.int _=>true
 |_,.str _,.str _=>true
 |n+1,.tup xs,.tup ys=>okLs (okL n) n xs ys
 |n+1,.lst xs,.lst ys=>okLs (okL n) n xs ys
 |_,_,_=>false
end L2
set_option maxHeartbeats 1000000
namespace L2
open PySem PySem.Spec PyProof.Rows
def Kp(h h':aX):Prop:=∀b o,h.get? b=some o->h'.get? b=some o
end L2
set_option maxHeartbeats 4000000
namespace L2
open PySem PySem.Spec PyProof.Rows
end L2
set_option maxHeartbeats 1000000
namespace L2
open PySem PySem.Spec PyProof.Rows
section
variable{X:Cx}{K:Fg}{pos:Pos}{k:Nat}
theorem eJ4{P:aE}{w:aQ}{L:List Nat}{te:ED}:aXf (cQ9 P w K) D.str L (λD'=>cX9 (cQ9 P w K) D' (upE K te)) (eJ3 D.str te):=dQ3 dJ4
end
end L2
namespace L2
open PySem PyProof.Rows
section
variable{K:ar}{k:Nat}
theorem e_fn{P:aE}{w:aQ}{mg:Str->Option ad}{base:aX}{x:Str}{st:Stmt}{N ps:List Str}{sp:SpD}{f:Addr}{fd:c6}(Fn:Fun K x x st f fd)(S:FnScope N ps (aQ3 st))
  (len:∀ds S Q,sp ds S Q->ds.length=ps.length)
  (h:∀ (cdv:ad) (A:aW) (outer:List Env) (s:ah) (H:Hp) (E:XK),Room k (A.deeper (g9 x (aQ3 st) s.heap.objs.size f cdv)) ->
   ∃t,PSsD K (cxOf CX0 P w K mg base N x (aQ3 st) f cdv A outer s H E).nox (aZ5 st) t/\∀ds S Q,sp ds S Q->t (cQ5 Q) (aJ1 N ds) S):FnOk P w K mg base CX0 (k+1) f fd ps (spU K sp):=by
 refine Fn.ok S (λvs H Q E D=>by obtain⟨F,S,ds,QD,r,l,j,c⟩:=D;rw[l.length];exact len ds S QD j) (λcdv A outer s H vs Q E' O D=>?_)
 obtain⟨F,S,ds,QD,r,l,j,c⟩:=D;obtain⟨t,h1,h2⟩:=h cdv A outer s H E' O;have fin:∀v d H' S',Ext S H S' H'->Rp K F S' H'->RepV K (mt S' F) H' d v->rtD QD d S'->Q v H':=λv d H' S' J B v1 L=>by
  obtain⟨Z,S2,hs,Y,q⟩:=L;exact c v Z H' S2 (J.trans (Ext.less hs)) (B.less hs) ((cZy B hs Y).1 v v1) q
 exact⟨_,h1.o,F,S,aJ1 N ds,cQ5 QD,r,bQu l,h2 ds S QD j,fun Γ' S' σ' H' J B g1 q=>fin .non .non H' S' J B (by unfold RepV;rfl) q,fin,λ_ _ _ _ _ _ _ q=>q.elim,λ_ _ _ _ _ _ _ q=>q.elim⟩
end
theorem us1{p:List ad->Prop}(h:∀a,p [a])(us:List ad)(ee:us.length=1):p us:=by
 cases us with
 |nil=>cases ee
 |cons a us =>
  cases us with
  |nil=>exact h a
  |cons z us=>exact absurd (Nat.succ.inj ee) (Nat.succ_ne_zero _)
theorem us2{p:List ad->Prop}(h:∀a b,p [a,b])(us:List ad)(ee:us.length=2):p us:=by
 cases us with
 |nil=>cases ee
 |cons a us =>
  cases us with
  |nil=>cases ee
  |cons b us =>
   cases us with
   |nil=>exact h a b
   |cons z us=>exact absurd (Nat.succ.inj (Nat.succ.inj ee)) (Nat.succ_ne_zero _)
theorem us3{p:List ad->Prop}(h:∀a b c,p [a,b,c])(us:List ad)(ee:us.length=3):p us:=by
 cases us with
 |nil=>cases ee
 |cons a us =>
  cases us with
  |nil=>cases ee
  |cons b us =>
   cases us with
   |nil=>cases ee
   |cons c us =>
    cases us with
    |nil=>exact h a b c
    |cons z us=>exact absurd (Nat.succ.inj (Nat.succ.inj (Nat.succ.inj ee))) (Nat.succ_ne_zero _)
theorem us4{p:List ad->Prop}(h:∀a b c d,p [a,b,c,d])(us:List ad)(ee:us.length=4):p us:=by
 cases us with
 |nil=>cases ee
 |cons a us =>
  cases us with
  |nil=>cases ee
  |cons b us =>
   cases us with
   |nil=>cases ee
   |cons c us =>
    cases us with
    |nil=>cases ee
    |cons d us =>
     cases us with
     |nil=>exact h a b c d
     |cons z us=>exact absurd (Nat.succ.inj (Nat.succ.inj (Nat.succ.inj (Nat.succ.inj ee)))) (Nat.succ_ne_zero _)
theorem fsc{N ps:List Str}{sc:Scope}(a:sc.kind=.function:=by rfl)(b:sc.isCoroutine=false:=by rfl)(c:sc.isGenerator=false:=by rfl)(d:N.Nodup:=by decide +kernel)(e:N.take ps.length=ps:=by rfl)(f:∀x∈ps,sc.names.lookup x=some .local\/sc.names.lookup x=some .cell:=by decide +kernel)(g:∀y∈sc.names,y.2≠.free:=by decide +kernel):FnScope N ps sc:=⟨a,b,c,d,e,f,g⟩
end L2
namespace Toy
open PySem L2
def top(i:Nat):Stmt:=PySem.Challenge.pw_corepetals_k13_whole_way_otherwise.main.body.getD i (.Pass ⟨0,0,0,0⟩)
end Toy
set_option maxHeartbeats 4000000
namespace L2
open PySem PySem.Spec PyProof.Rows
theorem bZy{α:Type}(l:List α)(i:Nat):∀m,(bQ m).filterMap (λk=>l[i+k]?)=(l.drop i).take m
 |0=>rfl
 |m+1=>by
  rw[List.range_succ,List.filterMap_append,bZy l i m,cI]
  congr 1
  rw[List.getElem?_drop];simp only[eC,List.filterMap_nil];cases l[i+m]? <;> rfl
theorem eJ5(lo hi:Option Int)(n:Nat):bI lo hi 1 n=(bQ (HT.sIx n n hi-HT.sIx n 0 lo)).map λk=>HT.sIx n 0 lo+k:=by
 have e:bI lo hi 1 n=sliceRange (eH lo hi none n).1 (eH lo hi none n).2.1 1:=rfl;obtain⟨h1,h2,_⟩:=aJ0 lo hi n;rw[e,h1,h2];unfold sliceRange;have j:(if (1:Int)>0 then (if ((HT.sIx n 0 lo:Nat):Int)<((HT.sIx n n hi:Nat):Int) then (((HT.sIx n n hi:Nat):Int)-((HT.sIx n 0 lo:Nat):Int)+1-1)/1 else 0) else (if ((HT.sIx n 0 lo:Nat):Int)>((HT.sIx n n hi:Nat):Int) then (((HT.sIx n 0 lo:Nat):Int)-((HT.sIx n n hi:Nat):Int)-1-1)/(-1) else 0)).toNat=HT.sIx n n hi-HT.sIx n 0 lo:=by
  rw[if_pos (by decide),Int.ediv_one]
  split <;> lia
 show(bQ _).map _=_;rw[j];apply dP;intro k _;lia
theorem cutS_eq(z:Str)(lo hi:Option Int):cutS z lo hi=⟨((z.cps.toList.drop (HT.sIx z.length 0 lo)).take (HT.sIx z.length z.length hi-HT.sIx z.length 0 lo)).toArray⟩:=by
 unfold cutS;rw[eJ5,ak,iB];have D:HT.sIx z.length z.length hi<=z.length:=HT.sIx_le _ _ (Nat.le_refl _) hi;have B:z.cps.toList.length=z.length:=aH
 by_cases h:(HT.sIx z.length z.length hi-HT.sIx z.length 0 lo==z.length)=true
 ·rw[if_pos h];have h':=gq h
  by_cases h0:z.length=0
  ·have:z.cps=#[]:=Array.eq_empty_of_size_eq_zero h0
   cases z;simp only at this;subst this;simp
  ·have j:HT.sIx z.length 0 lo=0:=by lia
   rw[h',j,jm,aZ (by lia)]
 ·rw[if_neg h,List.filterMap_map]
  congr 1
  have:=bZy z.cps.toList (HT.sIx z.length 0 lo) (HT.sIx z.length z.length hi-HT.sIx z.length 0 lo)
  rw[<- this]
  congr 2
  funext k;show z.cps[HT.sIx z.length 0 lo+k]?=_;rw[aU]
end L2
set_option maxHeartbeats 1000000
namespace L2
open PySem
def lettersZ:Str:=Str.ofString "abcdefghijklmnopqrstuvwxyz"
theorem cXc{i:Nat}(h:i<26):atI lettersZ.cps.toList (i:Int)=some (97+i):=by
 have:∀j:Fin 26,lettersZ.cps.toList[j.val]?=some (97+j.val):=by decide +kernel
 exact aZw (this ⟨i,h⟩)
end L2
set_option maxHeartbeats 4000000
namespace L2
open PySem
theorem aQ5{n:Nat}(h:n<=9999):n<=sizeLine:=by rw[bn];lia
theorem aJx{α:Type}:∀(l:List α) (j:Nat) (h:j<l.length),(l[j]::l.eraseIdx j).Perm l
 |a::l,0,_=>.refl _
 |a::l,j+1,h=>by
  have B:=aJx l j (by simpa using h)
  show(l[j]'(by simpa using h)::a::l.eraseIdx j).Perm (a::l)
  exact(jq.swap _ _ _).trans (B.cons a)
theorem cXd{α β:Type}{f:α->β}(g:β->α)(hg:∀x,g (f x)=x){vs us:List β}{xs:List α}(h:(vs++us).Perm (xs.map f)):∃as bs:List α,vs=as.map f/\us=bs.map f/\(as++bs).Perm xs:=by
 have mem:∀y∈vs++us,f (g y)=y:=λy j=>by
  obtain⟨x,_,rfl⟩:=aP.mp (h.mem_iff.mp j);rw[hg]
 have lift:∀l:List β,(∀y∈l,f (g y)=y)->l=(l.map g).map f:=λl hl=>by
  rw[a7];apply gx (by simp)
  intro i h1 h2;rw[iX];exact(hl _ (cS h1)).symm
 refine⟨vs.map g,us.map g,lift vs λy j=>mem y (c5 _ j),lift us λy j=>mem y (bf _ j),?_⟩;have p:=h.map g;rw[b9,a7] at p;have e:xs.map (g∘f)=xs:=by
  apply gx (by simp)
  intro i h1 h2;rw[iX];exact hg _
 rwa [e] at p
def dStr':D->Str
 |.str s=>s
 |_=>⟨#[]⟩
theorem dQ6{t:List Str}{l:List (List Str)}:tupS t∈l.map tupS↔t∈l:=by
 rw[aP];exact⟨λ⟨m,h,e⟩=>by rw[<- dQ5 _ _ e];exact h,λh=>⟨t,h,rfl⟩⟩
theorem aJ2:∀l:List Str,aZ1 (l.map D.str)=true
 |[]=>rfl
 |x::l=>by show(true&&aZ1 (l.map D.str))=true;rw[aJ2 l];rfl
theorem aJy:∀l:List (List Str),aZ1 (l.map tupS)=true
 |[]=>rfl
 |x::l=>by
  show(aZ1 (x.map D.str)&&aZ1 (l.map tupS))=true;rw[aJ2 x,aJy l];rfl
theorem dQ7(a b:List Str):okE 8 (tupS a) (tupS b)=true:=by
 show((a.map D.str).zip (b.map D.str)).all (λp=>okE 7 p.1 p.2)=true;rw[List.zip_map,fY,b8];rintro⟨a,b⟩ _
 rfl
end L2
namespace Toy
open PySem L2
def Pile(S:Sto)(a:Addr):Prop:=∃(cs:List Int) (i r s c:Int),S a=some (.lst [.lst (cs.map D.int),.int i,.int r,.int s,.int c])/\cs.length<=63/\0<=i/\i<=cs.length/\0<=r/\0<=s/\s<2147483629/\0<=c
theorem Pile.ne{S:Sto}{a p:Addr}(h:Pile S a)(hp:S p=none):p≠a:=by
 obtain⟨cs,i,r,s,c,hS,_⟩:=h;rintro rfl;rw[hp] at hS;cases hS
theorem Pile.eq{S S':Sto}{a:Addr}(h:Pile S a)(e:S' a=S a):Pile S' a:=by
 obtain⟨cs,i,r,s,c,j,k⟩:=h;exact⟨cs,i,r,s,c,e.trans j,k⟩
theorem Pile.supd{S:Sto}{a p:Addr}{o:DO}(h:Pile S a)(hp:p≠a):Pile (supd S p o) a:=h.eq (aQg (dA hp))
def aJz:SpD:=λds S Q=>∃ns:List Int,ds=[.lst (ns.map D.int)]/\ns.length<=63/\∀p S',S p=none->Off p S S'->Pile S' p->Q (.ref p) S'
def aZ2:SpD:=λds S Q=>∃(a:Addr) (m:Int),ds=[.ref a,.int m]/\Pile S a/\1<=m/\m<1000000/\∀(r:Int) S',0<=r->r<m->Off a S S'->Pile S' a->Q (.int r) S'
theorem dQ8{a lp:Addr}(hla:lp≠a){S:Sto}{xs:List D}{m:Nat}(hS:S lp=some (.lst xs))(hm:m<=xs.length)(hx:xs.length<=9999)(dk:Pile S a){Q:List D->Sto->Prop}
  (q:∀vs us S',(vs++us).Perm xs->vs.length=m->S' lp=some (.lst us)->Pile S' a->(∀b,b≠a->b≠lp->S' b=S b)->Q vs S') :
  aZ7 (aZg 0) dYes (aJ9 (dMt cZz ckL (dVar 1) (bXh (dCB aZ2 (bXh (dVar 2) (bXh (dCB lenD (bXh (dVar 1) dNil)) dNil))) dNil))) (λ_=>True) [none,some (.ref lp),some (.ref a)] (rngD 0 m) [] S Q:=by
 refine aJh (λi acc S'=>∃us:List D,acc.length=i/\S' lp=some (.lst us)/\(acc++us).Perm xs/\Pile S' a/\∀b,b≠a->b≠lp->S' b=S b) ⟨xs,rfl,hS,.refl _,dk,λ_ _ _=>rfl⟩ ?_ ?_
 ·rintro i x vs S' N Y ⟨us,J,hl,pm,O,B⟩ hN;obtain⟨hi,rfl⟩:=cX6 Y;have hul:us.length+i=xs.length:=by have:=pm.length_eq;rw[aG] at this;lia
  refine⟨trivial,⟨_,hl⟩,_,hl,a,us.length,rfl,O,by lia,by lia,λr2 S2 r20 r21 L dk2=>?_⟩
  have Z:S2 lp=some (.lst us):=(L lp hla).trans hl;obtain⟨j,rfl⟩:∃j:Nat,r2=j:=⟨r2.toNat,by lia⟩
  have hj:j<us.length:=by lia
  refine⟨_,j,us[j],Z,rfl,by lia,ag hj,by rw[bn];lia,hN _ _ ⟨us.eraseIdx j,?_,aQ7,?_,dk2.supd hla,λb h1 h2=>(aQg h2).trans ((L b h1).trans (B b h1 h2))⟩⟩
  ·rw[aG,J];rfl
  ·refine jq.trans ?_ pm;rw[aY];exact(List.perm_append_left_iff vs).mpr (aJx us j hj)
 ·rintro vs S' ⟨us,J,hl,pm,O,B⟩;rw[aX6] at J;exact⟨trivial,q vs us S' pm J hl O B⟩
def SetOf(names:List Str)(most:Nat)(t:List Str):Prop:=t.Nodup/\t.Pairwise (λx y=>leS x y=true)/\(∀n∈t,n∈names)/\t.length<=most
def bQg:SpD:=λds S Q=>∃(a:Addr) (names:List Str) (many:Nat),ds=[.ref a,tupS names,.int many]/\Pile S a/\names.Nodup/\names.length<=60/\many<=60/\∀t S',SetOf names many t->(t.length=many\/t.length=names.length)->Off a S S'->Pile S' a->Q (tupS t) S'
theorem cQa{α:Type}(l:List α)(nd:l.Nodup)(i m:Nat)(hi:i<=l.length)(hm:m<=l.length):(((l++l).drop i).take m).Nodup:=by
 have e:(l++l).drop i=l.drop i++l:=by rw[eJ hi]
 rw[e];have j:(l.drop i++l.take i).Nodup:=by
  have:(l.drop i++l.take i).Perm l:=cY.trans (by rw[bo])
  exact this.nodup_iff.mpr nd
 have sub:((l.drop i++l).take m).Sublist (l.drop i++l.take i):=by
  have h1:(l.drop i++l).take m=((l.drop i++l.take i)++l.drop i).take m:=by rw[aY,bo]
  rw[h1,cu (by rw[aG,bE,a6];lia)]
  exact dG _ _
 exact sub.nodup j
theorem dJ6{p s:Str}{c d:Nat}(h:p++(⟨#[c]⟩:Str)++s=p++(⟨#[d]⟩:Str)++s):c=d:=by
 have e:(p.cps++#[c]++s.cps).toList=(p.cps++#[d]++s.cps).toList:=congrArg (λz:Str=>z.cps.toList) h;simpa using e
def sh2(x y:Nat):List Str:=([x,y].map λc=>sg c++sg x)++([x,y].map λc=>sg c++sg y)
theorem bZz{z:Str}(h:z.length<=7)(lo hi:Option Int):(cutS z lo hi).length<=7:=by
 rw[cutS_eq];show(List.toArray _).size<=7;rw[av,a6,bE]
 have:z.cps.toList.length=z.length:=aH
 lia
theorem bQ0{x y:Nat}:∀w∈sh2 x y,w.length=2:=λw h=>by
 have two:∀c d:Nat,(sg c++sg d).length=2:=λc d=>by
  show((#[c]:Array Nat)++#[d]).size=2;rw[dH];rfl
 unfold sh2 at h;rcases aN.mp h with h|h <;> (obtain⟨c,_,rfl⟩:=aP.mp h;exact two _ _)
def w14(x y:Nat):List Str:=[x,y].map sg++sh2 x y++(sh2 x y).map (λw=>w++sg x)++(sh2 x y).map (λw=>w++sg y)
theorem bZ1(a b:Str):(a++b).length=a.length+b.length:=by
 show(a.cps++b.cps).size=_;rw[dH];rfl
theorem dJ7{x y:Nat}:∀w∈w14 x y,1<=w.length:=λw h=>by
 unfold w14 at h;rcases aN.mp h with h|h
 ·rcases aN.mp h with h|h
  ·rcases aN.mp h with h|h
   ·obtain⟨c,_,rfl⟩:=aP.mp h;exact Nat.le_refl 1
   ·rw[bQ0 w h];decide
  ·obtain⟨v,j,rfl⟩:=aP.mp h;rw[bZ1,bQ0 v j];lia
 ·obtain⟨v,j,rfl⟩:=aP.mp h;rw[bZ1,bQ0 v j];lia
def aJ3:SpD:=λds S Q=>∃(a:Addr) (many:Nat),ds=[.ref a,.int many]/\Pile S a/\many<=24/\∀(names:List Str) S',names.Nodup->names.Pairwise (λx y=>leS x y=true)->names.length=many->(∀n∈names,1<=n.length)->Off a S S'->Pile S' a->Q (tupS names) S'
end Toy
set_option maxHeartbeats 1000000
namespace Toy
open PySem L2
abbrev s_law_pile:Stmt:=top 14
theorem bXp:FnScope ["script"] ["script"] (aQ3 s_law_pile):=fsc
section
variable{P:aE}{w:aQ}{K:ar}{mg:Str->Option ad}{base:aX}{pt cc:Addr}
theorem bXq(T:Tx K mg "_law_pile" s_law_pile)(B:Bs mg):Df P w K mg base 1 "_law_pile" ["script"] (spU K aJz):=by
 refine aZu T bXp (λF=>F.binds λ_ _ _ _ _ _=>us1 λ_=>rfl) ?_ λf J A outer s H E L=>⟨_,(aQ4 (aQl (aZt (b:=true) (aQ0 (dv 0) (aQ0 aQ6 (aQ0 aQ6 (aQ0 aQ6 (aQ0 aQ6 aQ1)))))))),?_⟩
 ·rintro ds S Q ⟨ns,rfl,_⟩;rfl
 ·rintro ds S Q ⟨ns,rfl,hn,q⟩;refine⟨by show 5<=sizeLine;rw[bn];decide,λp j=>aQr (q p _ j (λb D=>aQg D) ⟨ns,0,0,44021,0,aQ7,hn,by decide,by omega,by decide,by decide,by decide,by decide⟩)⟩
end
abbrev s_law_next:Stmt:=top 15
theorem sc_law_next:FnScope ["pile", "most", "found", "cell"] ["pile", "most"] (aQ3 s_law_next):=fsc
section
variable{P:aE}{w:aQ}{K:ar}{mg:Str->Option ad}{base:aX}{pt cc:Addr}
theorem bXr(T:Tx K mg "_law_next" s_law_next)(B:Bs mg)(AB:mg "abs"=none):Df P w K mg base 1 "_law_next" ["pile", "most"] (spU K aZ2):=by
 refine aZu T sc_law_next (λF=>F.binds λ_ _ _ _ _ _=>us2 λ_ _=>rfl) ?_ λf cdv A outer s H E hr=>⟨_,(aQ2 (aZz (dXi hr (e_ix (dv 0) aQ6) aQ6) (aQ2 (aQb (i:=2) sc_law_next.nd rfl (a4 rfl) (bZr (e_ix (dv 0) aQ6) (dv 1)))
  (aQ2 (aXj (cZh (e_ix (dv 0) aQ6) (dv 1)) (bQd (dv 0) aQ6))
  (aQ4 (aQl (dv 2))))) aQt)
  (aQ2 (aZz (cJo hr (e_ix (dv 0) aQ6) (aXi rfl B.len (aQ0 (e_ix (dv 0) aQ6) aQ1))) (aQ2 (aQb (i:=3) sc_law_next.nd rfl (a4 rfl) (e_ix (e_ix (dv 0) aQ6) (e_ix (dv 0) aQ6)))
  (aQ2 (aXj (aZ4 (k:=false) (e_ix (dv 0) aQ6) aQ6) (bQd (dv 0) aQ6))
  (aQ2 (aXj (bZr (aZ4 (k:=false) (cJn (e_ix (dv 0) aQ6) aQ6) (dv 3)) aQ6) (bQd (dv 0) aQ6))
  (aQ2 (aZz (fQe hr (dJ0 rfl AB (aQ0 (dv 3) aQ1)) (fQb aQ6 aQ6)) (aQ2 (aXj (cZh (dJ0 rfl AB (aQ0 (dv 3) aQ1)) (dv 1)) (bQd (dv 0) aQ6))
  (aQ4 (aQl (bZr (dJ0 rfl AB (aQ0 (dv 3) aQ1)) (dv 1))))) aQt)
  (aQ4 (aQl (bZr (dv 3) (dv 1)))))))) aQt)
  (aQ2 (aXj (aZ4 (k:=false) (e_ix (dv 0) aQ6) aQ6) (bQd (dv 0) aQ6))
  (aQ2 (aXj (bZr (aZ4 (k:=false) (aZ4 (k:=false) (cJn (e_ix (dv 0) aQ6) (e_ix (dv 0) aQ6)) (cJn aQ6 (e_ix (dv 0) aQ6))) aQ6) aQ6) (bQd (dv 0) aQ6))
  (aQ4 (aQl (bZr (cZh (e_ix (dv 0) aQ6) aQ6) (dv 1)))))))),?_⟩
 ·rintro ds S Q ⟨a,m,rfl,_⟩;rfl
 ·rintro ds S Q ⟨a,m,rfl,⟨cs,i,r,sd,c,L,hc,i0,i1,r0,s0,s1,c0⟩,O,m2,q⟩;have off:∀o,Off a S (supd S a o):=λo b Y=>aQg Y;have N:∀o o',Off a S (supd (supd S a o) a o'):=λo o' b Y=>by rw[aQg Y,aQg Y]
  have off3:∀o o' o'',Off a S (supd (supd (supd S a o) a o') a o''):=λo o' o'' b Y=>by rw[aQg Y,aQg Y,aQg Y]
  refine⟨_,_,L,rfl,_,rfl,ite2 (λk0=>?_) λk0=>?_⟩
  ·refine⟨_,_,L,rfl,(by first|exact .inl ⟨by decide,by decide⟩|exact .inr ⟨by decide,by decide⟩|exact .inl ⟨by omega,by omega⟩|exact .inr ⟨by omega,by omega⟩|exact⟨by decide,by decide⟩|exact⟨by omega,by omega⟩|(show(0:Int)<_;first|decide|omega)|(show _<=sizeLine;rw[bn];first|decide|omega)|decide|omega),_,_,L,rfl,⟨(by first|exact .inl ⟨by decide,by decide⟩|exact .inr ⟨by decide,by decide⟩|exact .inl ⟨by omega,by omega⟩|exact .inr ⟨by omega,by omega⟩|exact⟨by decide,by decide⟩|exact⟨by omega,by omega⟩|(show(0:Int)<_;first|decide|omega)|(show _<=sizeLine;rw[bn];first|decide|omega)|decide|omega),(by first|exact .inl ⟨by decide,by decide⟩|exact .inr ⟨by decide,by decide⟩|exact .inl ⟨by omega,by omega⟩|exact .inr ⟨by omega,by omega⟩|exact⟨by decide,by decide⟩|exact⟨by omega,by omega⟩|(show(0:Int)<_;first|decide|omega)|(show _<=sizeLine;rw[bn];first|decide|omega)|decide|omega)⟩,_,_,L,rfl,?_⟩
   show rtD Q (.int (r%m)) (supd S a (.lst [.lst (cs.map D.int),.int i,.int (r/m),.int sd,.int c]));exact aQr (q _ _ (md O).1 (md O).2 (off _) ⟨cs,i,r/m,sd,c,aQ7,hc,i0,i1,Int.ediv_nonneg r0 (by omega),s0,s1,c0⟩)
  refine⟨_,_,L,rfl,_,_,L,rfl,_,rfl,_,rfl,ite2 (λk1=>?_) λk1=>?_⟩
  ·have hi:i.toNat<cs.length:=by have:=of_decide_eq_true k1;rw[ak] at this;omega
   obtain⟨cell,ei⟩:∃cell:Int,atI (cs.map D.int) i=some (.int cell):=by
    refine⟨cs[i.toNat],?_⟩
    have:=aZw (xs:=cs.map D.int) (j:=i.toNat) (v:=.int cs[i.toNat]) (by rw[aK,ag hi];rfl)
    rwa [show((i.toNat:Nat):Int)=i by omega] at this
   have J:supd S a (.lst [.lst (cs.map D.int),.int (i+1),.int r,.int sd,.int c]) a=_:=aQ7;refine⟨_,_,L,rfl,_,_,L,rfl,_,_,rfl,ei,_,_,L,rfl,_,_,L,rfl,_,_,J,rfl,.inr ⟨by decide,by decide⟩,by show(0:Int)<2147483629;decide,_,_,J,rfl,?_⟩
   have hm:=md (a:=sd*69069+cell) (b:=2147483629) (by decide)
   have Z:supd (supd S a (.lst [.lst (cs.map D.int),.int (i+1),.int r,.int sd,.int c])) a (.lst [.lst (cs.map D.int),.int (i+1),.int r,.int ((sd*69069+cell)%2147483629),.int c]) a=_:=aQ7;refine⟨⟨by decide,by decide,by decide⟩,_,rfl,ite2 (λk2=>?_) λk2=>?_⟩
   ·refine⟨⟨(by first|exact .inl ⟨by decide,by decide⟩|exact .inr ⟨by decide,by decide⟩|exact .inl ⟨by omega,by omega⟩|exact .inr ⟨by omega,by omega⟩|exact⟨by decide,by decide⟩|exact⟨by omega,by omega⟩|(show(0:Int)<_;first|decide|omega)|(show _<=sizeLine;rw[bn];first|decide|omega)|decide|omega),(by first|exact .inl ⟨by decide,by decide⟩|exact .inr ⟨by decide,by decide⟩|exact .inl ⟨by omega,by omega⟩|exact .inr ⟨by omega,by omega⟩|exact⟨by decide,by decide⟩|exact⟨by omega,by omega⟩|(show(0:Int)<_;first|decide|omega)|(show _<=sizeLine;rw[bn];first|decide|omega)|decide|omega)⟩,_,_,Z,rfl,(by first|exact .inl ⟨by decide,by decide⟩|exact .inr ⟨by decide,by decide⟩|exact .inl ⟨by omega,by omega⟩|exact .inr ⟨by omega,by omega⟩|exact⟨by decide,by decide⟩|exact⟨by omega,by omega⟩|(show(0:Int)<_;first|decide|omega)|(show _<=sizeLine;rw[bn];first|decide|omega)|decide|omega),aQr (q _ _ (md O).1 (md O).2 (off3 _ _ _) ⟨cs,i+1,(if cell<0 then -cell else cell)/m,(sd*69069+cell)%2147483629,c,aQ7,hc,by omega,by omega,Int.ediv_nonneg (by split <;> omega) (by omega),hm.1,hm.2,c0⟩)⟩
   ·exact⟨(by first|exact .inl ⟨by decide,by decide⟩|exact .inr ⟨by decide,by decide⟩|exact .inl ⟨by omega,by omega⟩|exact .inr ⟨by omega,by omega⟩|exact⟨by decide,by decide⟩|exact⟨by omega,by omega⟩|(show(0:Int)<_;first|decide|omega)|(show _<=sizeLine;rw[bn];first|decide|omega)|decide|omega),aQr (q _ _ (md O).1 (md O).2 (N _ _) ⟨cs,i+1,r,(sd*69069+cell)%2147483629,c,aQ7,hc,by omega,by omega,r0,hm.1,hm.2,c0⟩)⟩
  ·have J:supd S a (.lst [.lst (cs.map D.int),.int i,.int r,.int sd,.int (c+1)]) a=_:=aQ7;have hm:=md (a:=sd*sd+40014*(c+1)+977) (b:=2147483629) (by decide)
   have Z:supd (supd S a (.lst [.lst (cs.map D.int),.int i,.int r,.int sd,.int (c+1)])) a (.lst [.lst (cs.map D.int),.int i,.int r,.int ((sd*sd+40014*(c+1)+977)%2147483629),.int (c+1)]) a=_:=aQ7;exact⟨_,_,L,rfl,_,_,L,rfl,_,_,J,rfl,_,_,J,rfl,.inl ⟨by omega,by omega⟩,_,_,J,rfl,.inl ⟨by decide,by decide⟩,by show(0:Int)<2147483629;decide,_,_,J,rfl,_,_,Z,rfl,⟨by decide,by decide⟩,(by first|exact .inl ⟨by decide,by decide⟩|exact .inr ⟨by decide,by decide⟩|exact .inl ⟨by omega,by omega⟩|exact .inr ⟨by omega,by omega⟩|exact⟨by decide,by decide⟩|exact⟨by omega,by omega⟩|(show(0:Int)<_;first|decide|omega)|(show _<=sizeLine;rw[bn];first|decide|omega)|decide|omega),aQr (q _ _ (md O).1 (md O).2 (N _ _) ⟨cs,i,r,(sd*sd+40014*(c+1)+977)%2147483629,c+1,aQ7,hc,i0,i1,r0,hm.1,hm.2,by omega⟩)⟩
end
abbrev s_law_names:Stmt:=top 16
theorem sc_law_names:FnScope ["pile", "many", "letters", "start", "at", "base", "pair", "short", "some"] ["pile", "many"] (aQ3 s_law_names):=fsc
section
variable{P:aE}{w:aQ}{K:ar}{mg:Str->Option ad}{base:aX}{pt cc:Addr}
theorem bX0(T:Tx K mg "_law_names" s_law_names)(B:Bs mg)(d_law_next:Df P w K mg base 1 "_law_next" ["pile", "most"] (spU K aZ2)):Df P w K mg base 2 "_law_names" ["pile", "many"] (spU K aJ3):=by
 refine aZu T sc_law_names (λF=>F.binds λ_ _ _ _ _ _=>us2 λ_ _=>rfl) ?_ λf cdv A outer s H E hr=>⟨_,(aQ2 (aQb (i:=2) sc_law_names.nd rfl (gy rfl) aXg)
  (aQ2 (aQb (i:=3) sc_law_names.nd rfl (gy rfl) (aQ8 d_law_next hr rfl (aQ0 (dv 0) (aQ0 aQ6 aQ1))))
  (aQ2 (aQb (i:=4) sc_law_names.nd rfl (gy rfl) (aQ8 d_law_next hr rfl (aQ0 (dv 0) (aQ0 aQ6 aQ1))))
  (aQ2 (aQb (i:=5) sc_law_names.nd rfl (gy rfl) (e_ix (aZt (b:=false) (aQ0 aXg (aQ0 aXg (aQ0 aXg (aQ0 aXg (aQ0 aXg (aQ0 aXg (aQ0 aXg (aQ0 aXg aQ1))))))))) (aQ8 d_law_next hr rfl (aQ0 (dv 0) (aQ0 aQ6 aQ1)))))
  (cZx (aZz (PWD.pt (cZl (dXg hr (aQ8 d_law_next hr rfl (aQ0 (dv 0) (aQ0 aQ6 aQ1))) aQ6) (bXl (cJo hr (dv 1) aQ6)))) (aQ2 (aQb (i:=6) sc_law_names.nd rfl (gy rfl) (e_ix (aZt (b:=false) (aQ0 aXg (aQ0 aXg (aQ0 aXg (aQ0 aXg aQ1))))) (bZr (dv 3) aQ6)))
  (aQ2 (aQb (i:=7) sc_law_names.nd rfl (a4 rfl) (aZ4 (k:=false) (aQp (N':=["word", "pair"]) (oc:=none) (b:=false) [0] [] rfl sc_law_names.nd (λ_ _ _=>aQa ..) (.own (.cap (i:=6) rfl (by decide +kernel) .nil)) (aQh rfl) (dZ1 (dv 6)) (cg_name (i:=0)) (λ_ _ _ _ _=>aQe (i:=0) (nd_ ["word", "pair"]) rfl (a4 rfl) (.inr rfl)) (λ_ _ _ _ _=>aQo) aQj (λ_ _ _ _ _ _=>aQi rfl (by exact PD.o (aZ4 (k:=false) (dv 0) (e_ix (dv 1) aQ6))))) (aQp (N':=["word", "pair"]) (oc:=none) (b:=false) [0] [] rfl sc_law_names.nd (λ_ _ _=>aQa ..) (.own (.cap (i:=6) rfl (by decide +kernel) .nil)) (aQh rfl) (dZ1 (dv 6)) (cg_name (i:=0)) (λ_ _ _ _ _=>aQe (i:=0) (nd_ ["word", "pair"]) rfl (a4 rfl) (.inr rfl)) (λ_ _ _ _ _=>aQo) aQj (λ_ _ _ _ _ _=>aQi rfl (by exact PD.o (aZ4 (k:=false) (dv 0) (e_ix (dv 1) aQ6)))))))
  (aQ2 (aQb (i:=8) sc_law_names.nd rfl (a4 rfl) (aZ4 (k:=false) (aZ4 (k:=false) (aZ4 (k:=false) (dXy (b:=false) rfl B.list (aQ0 (dv 6) aQ1)) (dv 7)) (aQp (N':=["word", "pair"]) (oc:=none) (b:=false) [0] [] rfl sc_law_names.nd (λ_ _ _=>aQa ..) (.own (.cap (i:=6) rfl (by decide +kernel) .nil)) (aQh rfl) (aZ0 (dv 7)) (cg_name (i:=0)) (λ_ _ _ _ _=>aQe (i:=0) (nd_ ["word", "pair"]) rfl (a4 rfl) (.inr rfl)) (λ_ _ _ _ _=>aQo) aQj (λ_ _ _ _ _ _=>aQi rfl (by exact PD.o (aZ4 (k:=false) (dv 0) (e_ix (dv 1) aQ6)))))) (aQp (N':=["word", "pair"]) (oc:=none) (b:=false) [0] [] rfl sc_law_names.nd (λ_ _ _=>aQa ..) (.own (.cap (i:=6) rfl (by decide +kernel) .nil)) (aQh rfl) (aZ0 (dv 7)) (cg_name (i:=0)) (λ_ _ _ _ _=>aQe (i:=0) (nd_ ["word", "pair"]) rfl (a4 rfl) (.inr rfl)) (λ_ _ _ _ _=>aQo) aQj (λ_ _ _ _ _ _=>aQi rfl (by exact PD.o (aZ4 (k:=false) (dv 0) (e_ix (dv 1) aQ6)))))))
  (aQ4 (aQl (aQm rfl B.tuple (aQ0 (aZ3 (b:=false) hr rfl B.sorted (aQ0 (e_sl (b:=false) (aZ4 (k:=false) (dv 8) (dv 8)) (aXe (dv 4)) (aXe (aZ4 (k:=false) (dv 4) (dv 1)))) aQ1)) aQ1))))))) aQt)
  (aQ4 (aQl (aQm rfl B.tuple (aQ0 (aZ3 (b:=false) hr rfl B.sorted (aQ0 (aQp (N':=["k", "base", "at", "letters", "start"]) (oc:=none) (b:=false) [0] [] rfl sc_law_names.nd (λ_ _ _=>aQa ..) (.own (.cap (i:=5) rfl (by decide +kernel) (.cap (i:=4) rfl (by decide +kernel) (.cap (i:=2) rfl (by decide +kernel) (.cap (i:=3) rfl (by decide +kernel) .nil))))) (aQh rfl) (aXk rfl B.range (aQ0 (dv 1) aQ1)) (cg_name (i:=0)) (λ_ _ _ _ _=>aQe (i:=0) (nd_ ["k", "base", "at", "letters", "start"]) rfl (a4 rfl) (.inr rfl)) (λ_ _ _ _ _=>aQo) aQj (λ_ _ _ _ _ _=>aQi rfl (by exact PD.o (aZ4 (k:=false) (aZ4 (k:=false) (e_sl (b:=false) (dv 1) aJv (aXe (dv 2))) (e_ix (dv 3) (bZr (aZ4 (k:=false) (dv 4) (cJn aQ6 (dv 0))) aQ6))) (e_sl (b:=false) (dv 1) (aXe (dv 2)) aJv))))) aQ1)) aQ1))))))))),?_⟩
 ·rintro ds S Q ⟨a,many,rfl,_⟩;rfl
 ·rintro ds S Q ⟨a,many,rfl,dk,m24,q⟩;refine⟨a,26,rfl,dk,by decide,by decide,λN S1 r10 r11 off1 dk1=>?_⟩
  refine⟨a,8,rfl,dk1,by decide,by decide,λJ S2 r20 r21 off2 dk2=>?_⟩
  refine⟨aQ5 (by decide),a,8,rfl,dk2,by decide,by decide,λZ S3 r30 r31 off3 dk3=>?_⟩
  obtain⟨z,hz,hzl⟩:∃z:Str,atI [D.str (Str.ofString ""),D.str (Str.ofString ""),D.str (Str.ofString "room"),D.str (Str.ofString "lengthy"),D.str (Str.ofString "zzz"),D.str (Str.ofString "qx"),D.str (Str.ofString "kkkkkk"),D.str (Str.ofString "none")] Z=some (.str z)/\z.length<=7:=by
   have h:Z=0\/Z=1\/Z=2\/Z=3\/Z=4\/Z=5\/Z=6\/Z=7:=by omega
   rcases h with rfl|rfl|rfl|rfl|rfl|rfl|rfl|rfl <;> exact⟨_,rfl,by decide⟩
  have O:∀{S'},Off a S3 S'->Off a S S':=λo=>off1.trans (off2.trans (off3.trans o));refine⟨_,_,rfl,hz,?_⟩;refine⟨fun Γ' S'=>Γ'=[some (.ref a),some (.int many),some (.str lettersZ),some (.int N),some (.int J),some (.str z),none,none,none]/\Off a S S'/\Pile S' a,?_,?_⟩
  ·refine⟨a,4,rfl,dk3,by decide,by decide,λr4 S4 r40 r41 L Y=>⟨rfl,_,rfl,ite2 (λc1=>?_) λc1=>⟨rfl,O L,Y⟩⟩⟩
   refine⟨_,rfl,ite2 (λc2=>?_) λc2=>⟨rfl,O L,Y⟩⟩;have m15:many<15:=by have:=of_decide_eq_true c2;omega
   obtain⟨x,y,hp,hnd⟩:∃x y:Nat,atI [D.str (Str.ofString "ab"),D.str (Str.ofString "qx"),D.str (Str.ofString "yz"),D.str (Str.ofString "mn")] (N%4)=some (.str ⟨#[x,y]⟩)/\(w14 x y).Nodup:=by
    have h:N%4=0\/N%4=1\/N%4=2\/N%4=3:=by omega
    rcases h with h|h|h|h <;> rw[h]
    ·exact⟨97,98,rfl,by decide +kernel⟩
    ·exact⟨113,120,rfl,by decide +kernel⟩
    ·exact⟨121,122,rfl,by decide +kernel⟩
    ·exact⟨109,110,rfl,by decide +kernel⟩
   refine⟨aQ5 (by show 4<=9999;decide),by show(0:Int)<4;decide,_,_,rfl,hp,?_⟩
   refine aQn (enc:=λc:Nat=>D.str ⟨#[c]⟩) (xs:=[x,y]) (f:=λc=>D.str (sg c++sg x)) (λc _ Q q=>⟨aQ5 (by show 2<=9999;decide),x,aZw (j:=0) rfl,aQ5 (by show 1+1<=9999;decide),q⟩) (aQ5 (by show 2<=9999;decide)) ?_
   refine aQn (enc:=λc:Nat=>D.str ⟨#[c]⟩) (xs:=[x,y]) (f:=λc=>D.str (sg c++sg y)) (λc _ Q q=>⟨aQ5 (by show 2<=9999;decide),y,aZw (j:=1) rfl,aQ5 (by show 1+1<=9999;decide),q⟩) (aQ5 (by show 2<=9999;decide)) ?_
   refine⟨_,_,rfl,rfl,aQ5 (by show 4<=9999;decide),by show 2<=1000;decide,_,_,rfl,rfl,aQ5 (by show 6<=9999;decide),(sh2 x y).map D.str,rfl,?_⟩
   refine aQn (enc:=D.str) (xs:=sh2 x y) (f:=λw=>D.str (w++sg x)) (λw hw Q q=>⟨aQ5 (by show 2<=9999;decide),x,aZw (j:=0) rfl,aQ5 (by rw[bQ0 w hw];show 2+1<=9999;decide),q⟩) (aQ5 (by show 4<=9999;decide)) ?_
   refine⟨_,_,rfl,rfl,aQ5 (by show 10<=9999;decide),(sh2 x y).map D.str,rfl,?_⟩
   refine aQn (enc:=D.str) (xs:=sh2 x y) (f:=λw=>D.str (w++sg y)) (λw hw Q q=>⟨aQ5 (by show 2<=9999;decide),y,aZw (j:=1) rfl,aQ5 (by rw[bQ0 w hw];show 2+1<=9999;decide),q⟩) (aQ5 (by show 4<=9999;decide)) ?_
   refine⟨_,_,rfl,rfl,aQ5 (by show 14<=9999;decide),_,_,rfl,rfl,aQ5 (by show 28<=9999;decide),J,rfl,J+many,rfl,_,rfl,?_⟩
   obtain⟨i,rfl⟩:∃i:Nat,J=i:=⟨J.toNat,by omega⟩
   have hi:i<8:=by omega
   have h14:(w14 x y).length=14:=rfl;have nds:=cQa (w14 x y) hnd i many (by omega) (by omega)
   have hlen:(((w14 x y++w14 x y).drop i).take many).length=many:=by rw[a6,bE,aG,h14];omega
   have sp:=aZm (((w14 x y++w14 x y).drop i).take many);refine .inl ⟨((w14 x y++w14 x y).drop i).take many,?_,_,rfl,aQr (q _ _ (sp.nodup_iff.mpr nds) (bZw _) (by rw[sp.length_eq,hlen]) (λn hn=>dJ7 n ((aN.mp (eA (cr (sp.mem_iff.mp hn)))).elim id id)) (O L) Y)⟩
   have ec:cutD ((w14 x y++w14 x y).map D.str) (some (i:Int)) (some ((i:Int)+(many:Int)))=(((w14 x y++w14 x y).drop i).take many).map D.str:=by
    rw[dQ1,show(i:Int)+(many:Int)=((i+many:Nat):Int) by omega,HT.sIx_nat,HT.sIx_nat,aG,h14,Nat.min_eq_left (by omega),Nat.min_eq_left (by omega),Nat.add_sub_cancel_left]
   exact ec.symm
  ·rintro Γ' S4 ⟨rfl,L,Y⟩;refine⟨⟨by omega,by omega⟩,?_⟩
   rw[bN,dXw];refine aQn (enc:=λk:Nat=>D.int (k:Nat)) (f:=λk=>D.str (cutS z none (some J)++(⟨#[97+((N+5*(k:Int))%26).toNat]⟩:Str)++cutS z (some J) none)) (λk hk Q q=>?_) (aQ5 (by rw[iB];show 0+many<=_;omega)) ?_
   ·have hb:(N+5*(k:Int))%26=((((N+5*(k:Int))%26).toNat:Nat):Int):=by omega
    have hat:atI lettersZ.cps.toList ((N+5*(k:Int))%26)=some (97+((N+5*(k:Int))%26).toNat):=by
     rw[hb];exact cXc (by omega)
    have l1:=bZz hzl none (some J);have l2:=bZz hzl (some J) none;have l3:(cutS z none (some J)++(⟨#[97+((N+5*(k:Int))%26).toNat]⟩:Str)).length=(cutS z none (some J)).length+1:=by
     show((cutS z none (some J)).cps++#[_]).size=_;rw[dH];rfl
    exact⟨J,rfl,by omega,.inl ⟨by decide,by decide⟩,by show(0:Int)<26;decide,by decide,_,hat,aQ5 (by show(cutS z none (some J)).length+1<=9999;omega),J,rfl,by omega,aQ5 (by rw[l3];omega),q⟩
   ·have nds:((bQ many).map λk:Nat=>cutS z none (some J)++(⟨#[97+((N+5*(k:Int))%26).toNat]⟩:Str)++cutS z (some J) none).Nodup:=by
     unfold fK;rw[bO];refine bK ?_ (List.pairwise_lt_range (n:=many));intro k k' hk hk' hlt e
     have:=dJ6 e
     have h1:=cz.mp hk;have h2:=cz.mp hk';omega
    have sp:=aZm ((bQ many).map λk:Nat=>cutS z none (some J)++(⟨#[97+((N+5*(k:Int))%26).toNat]⟩:Str)++cutS z (some J) none);refine .inl ⟨_,?_,_,rfl,aQr (q _ _ (sp.nodup_iff.mpr nds) (bZw _) (by rw[sp.length_eq,ak,iB]) (λn hn=>by obtain⟨k,_,rfl⟩:=aP.mp (sp.mem_iff.mp hn);rw[bZ1,bZ1];show 1<=_+1+_;omega) L Y)⟩
    show _=_;rw[a7];rfl
end
abbrev s_law_set:Stmt:=top 17
theorem sc_law_set:FnScope ["pile", "names", "many", "left"] ["pile", "names", "many"] (aQ3 s_law_set):=fsc
section
variable{P:aE}{w:aQ}{K:ar}{mg:Str->Option ad}{base:aX}{pt cc:Addr}
theorem cQb(T:Tx K mg "_law_set" s_law_set)(B:Bs mg)(d_law_next:Df P w K mg base 1 "_law_next" ["pile", "most"] (spU K aZ2)):Df P w K mg base 2 "_law_set" ["pile", "names", "many"] (spU K bQg):=by
 refine aZu T sc_law_set (λF=>F.binds λ_ _ _ _ _ _=>us3 λ_ _ _=>rfl) ?_ λf cdv A outer s H E hr=>⟨_,(aQ2 (aQb (i:=3) sc_law_set.nd rfl (gy rfl) (eX8 (b:=true) rfl B.list (aQ0 (dv 1) aQ1)))
  (aQ4 (aQl (aQm rfl B.tuple (aQ0 (aZ3 (b:=false) hr rfl B.sorted (aQ0 (aQp (N':=["k", "left", "pile"]) (oc:=none) (b:=false) [0] [] rfl sc_law_set.nd (λ_ _ _=>aQa ..) (.own (.cap (i:=3) rfl (by decide +kernel) (.cap (i:=0) rfl (by decide +kernel) .nil))) (aQh rfl) (aXk rfl B.range (aQ0 (fQi rfl B.min (aQ0 (dv 2) (aQ0 (aXi rfl B.len (aQ0 (dv 1) aQ1)) aQ1))) aQ1)) (cg_name (i:=0)) (λ_ _ _ _ _=>aQe (i:=0) (nd_ ["k", "left", "pile"]) rfl (a4 rfl) (.inr rfl)) (λ_ _ _ _ _=>aQo) aQj (λ_ _ _ _ _ _=>aQi rfl (by exact PD.o (dXs (dv 1) (aQ0 (aQ8 d_law_next hr rfl (aQ0 (dv 2) (aQ0 (aXi rfl B.len (aQ0 (dv 1) aQ1)) aQ1))) aQ1))))) aQ1)) aQ1))))),?_⟩
 ·rintro ds S Q ⟨a,names,many,rfl,_⟩;rfl
 ·rintro ds S Q ⟨a,names,many,rfl,dk,nd,n60,m60,q⟩;refine⟨_,rfl,λlp N=>?_⟩;have J:lp≠a:=dk.ne N;obtain⟨m,hm,mm,mn,mo⟩:∃m:Nat,(λi j:Int=>if j<i then j else i) (many:Int) ((names.map D.str).length:Int)=(m:Int)/\m<=many/\m<=names.length/\(m=many\/m=names.length):=by
   rw[ak];show ∃m:Nat,(if (names.length:Int)<(many:Int) then (names.length:Int) else (many:Int))=(m:Int)/\_
   split
   ·exact⟨names.length,rfl,by omega,Nat.le_refl _,.inr rfl⟩
   ·exact⟨many,rfl,Nat.le_refl _,by omega,.inl rfl⟩
  refine⟨_,rfl,?_,?_⟩
  ·rw[hm];exact⟨by omega,by omega⟩
  rw[hm,bN];refine dQ8 J (xs:=names.map D.str) aQ7 (by rw[ak];exact mn) (by rw[ak];omega) (dk.supd J) λvs us S' pm Y hl Z L=>?_
  obtain⟨as,bs,rfl,rfl,pn⟩:=cXd (f:=D.str) dStr' (λ_=>rfl) pm;rw[ak] at Y;have O:as.Nodup:=(dI.mp (pn.nodup_iff.mpr nd)).1;have sp:=aZm as;refine .inl ⟨as,rfl,_,rfl,aZd (S':=sdel S' lp) cZg (q (srS as) _ ⟨sp.nodup_iff.mpr O,bZw as,λn h=>pn.mem_iff.mp (c5 _ (sp.mem_iff.mp h)),by rw[sp.length_eq];omega⟩ (by rw[sp.length_eq];omega) (λb hb=>?_) (Z.eq (aJt (dA J))))⟩
  by_cases e:b=lp
  ·subst e;rw[aJs,N]
  ·rw[aJt e,L b hb e,aQg e]
end
abbrev s_law_collection:Stmt:=top 18
theorem sc_law_collection:FnScope ["pile", "names", "count", "sizes", "found", "k", "one"] ["pile", "names", "count", "sizes"] (aQ3 s_law_collection):=fsc
def aZh:SpD:=λds S Q=>∃(a:Addr) (names:List Str) (count:Nat) (sizes:List Nat) (most:Nat),ds=[.ref a,tupS names,.int count,.lst (sizes.map λk=>.int (k:Nat))]/\Pile S a/\names.Nodup/\names.length<=60/\count<=130/\sizes≠[]/\sizes.length<=99/\(∀k∈sizes,k<=most)/\most<=60 /\
 ∀(ts:List (List Str)) S',ts.Nodup->ts.Pairwise (λx y=>leT x y=true)->(∀t∈ts,SetOf names most t)->ts.length<=count->Off a S S'->Pile S' a->Q (.tup (ts.map tupS)) S'
section
variable{P:aE}{w:aQ}{K:ar}{mg:Str->Option ad}{base:aX}{pt cc:Addr}
theorem aXx(T:Tx K mg "_law_collection" s_law_collection)(B:Bs mg)(d_law_next:Df P w K mg base 2 "_law_next" ["pile", "most"] (spU K aZ2))(d_law_set:Df P w K mg base 2 "_law_set" ["pile", "names", "many"] (spU K bQg)):Df P w K mg base 3 "_law_collection" ["pile", "names", "count", "sizes"] (spU K aZh):=by
 refine aZu T sc_law_collection (λF=>F.binds λ_ _ _ _ _ _=>us4 λ_ _ _ _=>rfl) ?_ λf cdv A outer s H E hr=>⟨_,(aQ2 (aQb (i:=4) sc_law_collection.nd rfl (a4 rfl) (aZt (b:=true) aQ1))
  (aQ2 (bQe d9 rfl (aXk rfl B.range (aQ0 (dv 2) aQ1)) (aQw (i:=5) sc_law_collection.nd rfl (a4 rfl)) (aQ2 (aQb (i:=6) sc_law_collection.nd rfl (a4 rfl) (aQ8 d_law_set hr rfl (aQ0 (dv 0) (aQ0 (dv 1) (aQ0 (e_ix (dv 3) (aQ8 d_law_next hr rfl (aQ0 (dv 0) (aQ0 (aXi rfl B.len (aQ0 (dv 3) aQ1)) aQ1)))) aQ1)))))
  (aQ4 (aZz (bZt hr (dv 6) (dv 4)) (aQ4 (aXu (aX7 (dv 4) (aQ0 (dv 6) aQ1)))) aQt))))
  (aQ4 (aQl (aQm rfl B.tuple (aQ0 (aZ3 (b:=false) hr rfl B.sorted (aQ0 (dv 4) aQ1)) aQ1)))))),?_⟩
 ·rintro ds S Q ⟨a,names,count,sizes,most,rfl,_⟩;rfl
 ·rintro ds S Q ⟨a,names,count,sizes,most,rfl,dk,nd,n60,c60,sne,s99,smost,m60,q⟩;refine⟨aQ5 (by decide),λO hfp=>⟨⟨by omega,by omega⟩,?_⟩⟩
  have L:O≠a:=dk.ne hfp;have hs1:1<=sizes.length:=by cases sizes with|nil=>exact absurd rfl sne|cons _ _=>simp
  rw[bN];refine aXw (λi Γ S'=>∃(x5 x6:Option D) (ts:List (List Str)),Γ=[some (.ref a),some (tupS names),some (.int count),some (.lst (sizes.map λk=>.int (k:Nat))),some (.ref O),x5,x6]/\S' O=some (.lst (ts.map tupS))/\ts.length<=i/\ts.Nodup/\(∀t∈ts,SetOf names most t)/\Pile S' a/\∀b,b≠a->b≠O->S' b=S b) ⟨none,none,[],rfl,aQ7,Nat.le_refl _,fk,by simp,dk.supd L,λb _ hb=>aQg hb⟩ ?_ ?_
  ·rintro i x Γ S' N hx ⟨x5,x6,ts,rfl,hf,hl,Y,Z,dk',J⟩ hN;obtain⟨hi,rfl⟩:=cX6 hx;refine⟨trivial,_,rfl,a,_,rfl,dk',by rw[ak];omega,by rw[ak];omega,λr S2 r0 r1 off2 dk2=>?_⟩
   rw[ak] at r1;have hr:r.toNat<sizes.length:=by omega
   have hat:atI (sizes.map λk=>D.int (k:Nat)) r=some (.int (sizes[r.toNat]:Nat)):=by
    have:=aZw (xs:=sizes.map λk=>D.int (k:Nat)) (j:=r.toNat) (v:=.int (sizes[r.toNat]:Nat)) (by rw[aK,ag hr];rfl)
    rwa [show((r.toNat:Nat):Int)=r by omega] at this
   have hsz:=smost _ (cS hr);refine⟨_,_,rfl,hat,a,names,sizes[r.toNat],rfl,dk2,nd,n60,by omega,λt S3 ht _ off3 dk3=>?_⟩
   have hf3:S3 O=some (.lst (ts.map tupS)):=(off3 O L).trans ((off2 O L).trans hf);have ht':SetOf names most t:=⟨ht.1,ht.2.1,ht.2.2.1,Nat.le_trans ht.2.2.2 hsz⟩;have offA:∀b,b≠a->b≠O->S3 b=S b:=λb h1 h2=>(off3 b h1).trans ((off2 b h1).trans (J b h1 h2));refine⟨ts.map tupS,hf3,aJy ts,by rw[fY,b8];exact λx _=>dQ7 x t,_,rfl,?_⟩
   have e:decide (tupS t∈ts.map tupS)=decide (t∈ts):=decide_eq_decide.mpr dQ6;rw[if_pos rfl,e]
   by_cases hin:t∈ts
   ·rw[decide_eq_true hin];exact hN _ _ ⟨_,_,ts,rfl,hf3,by omega,Y,Z,dk3,offA⟩
   ·rw[decide_eq_false hin];refine⟨⟨_,hf3⟩,_,hf3,by rw[ak,bn];omega,hN _ _ ⟨_,_,ts++[t],rfl,?_,?_,?_,?_,dk3.supd L,λb h1 h2=>(aQg h2).trans (offA b h1 h2)⟩⟩
    ·rw[aQ7,b9];rfl
    ·rw[aG];show ts.length+1<=_;omega
    ·rw[dI];exact⟨Y,cA.mpr ⟨by simp,fk⟩,λx hx y hy=>by rw[aL.mp hy];rintro rfl;exact hin hx⟩
    ·intro z hz;rcases aN.mp hz with hz|hz
     ·exact Z z hz
     ·rw[aL.mp hz];exact ht'
  ·rintro Γ S' ⟨x5,x6,ts,rfl,hf,hl,Y,Z,dk',J⟩;rw[aX6] at hl;have sp:=aZn ts;refine⟨trivial,.inr (.inr ⟨ts,.inl hf,_,rfl,aZd (S':=sdel S' O) cZg (q (srT ts) _ (sp.nodup_iff.mpr Y) (cX0 ts) (λt h=>Z t (sp.mem_iff.mp h)) (by rw[sp.length_eq];exact hl) (λb hb=>?_) (dk'.eq (aJt (dA L))))⟩)⟩
   by_cases e:b=O
   ·subst e;rw[aJs,hfp]
   ·rw[aJt e,J b hb e]
end
end Toy
namespace Toy
variable{α:Type}
end Toy
namespace Toy
variable{α:Type}
end Toy
namespace Toy
variable{β:Type}[DecidableEq β]
theorem sorted_eq{lt:β->β->Prop}(irr:∀a,¬ lt a a)(asy:∀a b,lt a b->¬ lt b a):∀{l m:List β},l.Pairwise lt->m.Pairwise lt->(∀n,n∈l↔n∈m)->l=m
 |[],[],_,_,_=>rfl
 |[],b::m,_,_,h=>by have:=(h b).mpr au;simp at this
 |a::l,[],_,_,h=>by have:=(h a).mp au;simp at this
 |a::l,b::m,hl,hm,h=>by
  obtain⟨la,B⟩:=a8.mp hl;obtain⟨D,j⟩:=a8.mp hm;have e:a=b:=by
   rcases aM.mp ((h a).mp au) with z|z
   ·exact z
   ·rcases aM.mp ((h b).mpr au) with y|y
    ·exact y.symm
    ·exact absurd (D a z) (asy _ _ (la b y))
  subst e
  congr 1
  refine sorted_eq irr asy B j λn=>⟨λhn=>?_,λhn=>?_⟩
  ·rcases aM.mp ((h n).mp (ay _ hn)) with z|z
   ·subst z;exact absurd (la n hn) (irr n)
   ·exact z
  ·rcases aM.mp ((h n).mpr (ay _ hn)) with z|z
   ·subst z;exact absurd (D n hn) (irr n)
   ·exact z
end Toy
namespace Toy
variable{α β:Type}
end Toy
namespace L2
open PySem
abbrev Srt(t:List Str):Prop:=t.Pairwise λa b=>HT.ltS a b=true
abbrev SrtT(ts:List (List Str)):Prop:=ts.Pairwise λa b=>HT.lexS a b=true
theorem Srt.ext{l m:List Str}(hl:Srt l)(hm:Srt m)(h:∀n,n∈l↔n∈m):l=m :=
 Toy.sorted_eq (lt:=λa b=>HT.ltS a b=true) (λa=>by rw[HT.ltS_ir];simp) (λa b h=>by rw[HT.ltS_as h];simp) hl hm h
theorem SrtT.ext{l m:List (List Str)}(hl:SrtT l)(hm:SrtT m)(h:∀n,n∈l↔n∈m):l=m :=
 Toy.sorted_eq (lt:=λa b=>HT.lexS a b=true) (λa=>by rw[bQv];simp) (λa b h=>by rw[HT.lexS_as h];simp) hl hm h
theorem Srt.nodup{t:List Str}(h:Srt t):t.Nodup:=h.imp λ{a b} h e=>by subst e;rw[HT.ltS_ir] at h;cases h
theorem SrtT.nodup{t:List (List Str)}(h:SrtT t):t.Nodup:=h.imp λ{a b} h e=>by subst e;rw[bQv] at h;cases h
theorem bJj{t:List Str}(nd:t.Nodup)(h:t.Pairwise λx y=>leS x y=true):Srt t:=by
 induction t with
 |nil=>exact .nil
 |cons a t B =>
  rw[a8] at h;rw[cA] at nd;refine a8.mpr ⟨λb j=>?_,B nd.2 h.2⟩
  have:=h.1 b j
  unfold leS at this;rw[dg] at this;exact HT.ltS_tot this λe=>nd.1 (by rw[<- e];exact j)
theorem cXe{t:List (List Str)}(nd:t.Nodup)(h:t.Pairwise λx y=>leT x y=true):SrtT t:=by
 induction t with
 |nil=>exact .nil
 |cons a t B =>
  rw[a8] at h;rw[cA] at nd;refine a8.mpr ⟨λb j=>?_,B nd.2 h.2⟩
  have:=h.1 b j
  unfold leT at this;rw[dg] at this;exact HT.lexS_tot this λe=>nd.1 (by rw[<- e];exact j)
theorem aZo{l:List Str}(nd:l.Nodup):Srt (srS l):=bJj ((aZm l).nodup_iff.mpr nd) (bZw l)
theorem aZp{l:List (List Str)}(nd:l.Nodup):SrtT (srT l):=cXe ((aZn l).nodup_iff.mpr nd) (cX0 l)
theorem mem_srS{l:List Str}{x:Str}:x∈srS l↔x∈l:=(aZm l).mem_iff
theorem mem_srT{l:List (List Str)}{x:List Str}:x∈srT l↔x∈l:=(aZn l).mem_iff
theorem eJ6{l:List Str}(h:Srt l):srS l=l:=Srt.ext (aZo h.nodup) h λn=>mem_srS
theorem cXf{l:List (List Str)}(h:SrtT l):srT l=l:=SrtT.ext (aZp h.nodup) h λn=>mem_srT
def dd{α:Type}[DecidableEq α]:List α->List α
 |[]=>[]
 |x::xs=>if x∈xs then dd xs else x::dd xs
theorem mem_dd{α:Type}[DecidableEq α]{x:α}:∀{l:List α},x∈dd l↔x∈l
 |[]=>Iff.rfl
 |y::l=>by
  unfold dd
  split
  ·next h =>
   rw[mem_dd,aM];exact⟨.inr,λz=>z.elim (λe=>by rw[e];exact h) id⟩
  ·rw[aM,aM,mem_dd]
theorem bZ2{α:Type}[DecidableEq α]:∀l:List α,(dd l).Nodup
 |[]=>fk
 |y::l=>by
  unfold dd
  split
  ·exact bZ2 l
  ·next h=>exact cA.mpr ⟨λz=>h (mem_dd.mp z),bZ2 l⟩
def nms(ts:List (List Str)):List Str:=srS (dd ts.flatten)
theorem aXy(ts:List (List Str)):Srt (nms ts):=aZo (bZ2 _)
theorem mem_nms{ts:List (List Str)}{x:Str}:x∈nms ts↔∃t∈ts,x∈t:=by
 unfold nms;rw[mem_srS,mem_dd,gz]
theorem cXg{ts:List (List Str)}{out:List Str}(h:Srt out)(m:∀x,x∈out↔∃t∈ts,x∈t):out=nms ts:=h.ext (aXy ts) λn=>(m n).trans mem_nms.symm
def mts{α:Type}[DecidableEq α](one row:List α):Bool:=row.any λd=>decide (d∈one)
def has{α:Type}[DecidableEq α](one row:List α):Bool:=row.all λd=>decide (d∈one)
theorem mts_iff{α:Type}[DecidableEq α]{one row:List α}:mts one row=true↔∃x∈row,x∈one:=by unfold mts;simp
theorem has_iff{α:Type}[DecidableEq α]{one row:List α}:has one row=true↔∀x∈row,x∈one:=by unfold has;simp
def wo{α:Type}[DecidableEq α](one row:List α):List α:=one.filter λd=>!decide (d∈row)
theorem mem_wo{α:Type}[DecidableEq α]{one row:List α}{x:α}:x∈wo one row↔x∈one/\x∉row:=by unfold wo;rw[bM];simp
def lnk(ts:List (List Str))(row:List Str):List (List Str):=srT ((ts.filter λt=>has t row).map λt=>wo t row)
end L2
set_option maxHeartbeats 4000000
namespace L2
open PySem
structure Enc(α:Type) where
 e:α->D
 inj:∀{x y},e x=e y->x=y
 pl:∀x,plain (e x)=true
 dep:Nat
 ok:∀n x y,dep<=n->okE n (e x) (e y)=true
 lt:α->α->Bool
 okl:∀n x y,dep<=n->okL n (e x) (e y)=true
 lte:∀n x y,dep<=n->ltN n (e x) (e y)=lt x y
def lexG{α:Type}[DecidableEq α](lt:α->α->Bool):List α->List α->Bool
 |[],[]=>false
 |[],_::_=>true
 |_::_,[]=>false
 |x::xs,y::ys=>if x=y then lexG lt xs ys else lt x y
def strE:Enc Str where
 e:=D.str
 inj:=λh=>by injection h
 pl:=λ_=>rfl
 dep:=0
 ok:=λn x y _=>by cases n <;> rfl
 lt:=HT.ltS
 okl:=λn x y _=>by cases n <;> rfl
 lte:=λn x y _=>by cases n <;> rfl
def tupE{α:Type}[DecidableEq α](E:Enc α):Enc (List α) where
 e:=λl=>.tup (l.map E.e)
 inj:=λ{x y} h=>by
  injection h with h
  exact bZ0 (λa b e=>E.inj e) h
 pl:=λl=>by
  show aZ1 (l.map E.e)=true
  induction l with
  |nil=>rfl
  |cons x l ih=>show(plain (E.e x)&&aZ1 (l.map E.e))=true;rw[E.pl,ih];rfl
 dep:=E.dep+1
 ok:=λn x y h=>by
  obtain⟨m,rfl⟩:∃m,n=m+1:=⟨n-1,by lia⟩
  show((x.map E.e).zip (y.map E.e)).all (λp=>okE m p.1 p.2)=true;rw[List.zip_map,fY,b8];exact λp _=>E.ok m p.1 p.2 (by lia)
 lt:=lexG E.lt
 okl:=λn x y h=>by
  obtain⟨m,rfl⟩:∃m,n=m+1:=⟨n-1,by lia⟩
  show okLs (okL m) m (x.map E.e) (y.map E.e)=true
  induction x generalizing y with
  |nil=>cases y <;> rfl
  |cons a x ih =>
   cases y with
   |nil=>rfl
   |cons b y =>
    show(okE m (E.e a) (E.e b)&&(if E.e a=E.e b then okLs (okL m) m (x.map E.e) (y.map E.e) else okL m (E.e a) (E.e b)))=true
    rw[E.ok m a b (by lia),iG]
    split
    ·exact ih y
    ·exact E.okl m a b (by lia)
 lte:=λn x y h=>by
  obtain⟨m,rfl⟩:∃m,n=m+1:=⟨n-1,by lia⟩
  show lexN (ltN m) (x.map E.e) (y.map E.e)=lexG E.lt x y
  induction x generalizing y with
  |nil=>cases y <;> rfl
  |cons a x ih =>
   cases y with
   |nil=>rfl
   |cons b y =>
    show(if E.e a=E.e b then lexN (ltN m) (x.map E.e) (y.map E.e) else ltN m (E.e a) (E.e b))=if a=b then lexG E.lt x y else E.lt a b
    by_cases hab:a=b
    ·subst hab;rw[if_pos rfl,if_pos rfl];exact ih y
    ·rw[if_neg λz=>hab (E.inj z),if_neg hab];exact E.lte m a b (by lia)
abbrev setE:Enc (List Str):=tupE strE
abbrev flE:Enc (List (List Str)):=tupE setE
section
variable{α:Type}[DecidableEq α]{E:Enc α}
theorem bJk:∀l:List α,aZ1 (l.map E.e)=true
 |[]=>rfl
 |x::l=>by show(plain (E.e x)&&aZ1 (l.map E.e))=true;rw[E.pl,bJk l];rfl
theorem fQv{x:α}{l:List α}:E.e x∈l.map E.e↔x∈l:=by
 rw[aP];exact⟨λ⟨y,h,e⟩=>by rw[<- E.inj e];exact h,λh=>⟨x,h,rfl⟩⟩
theorem in_e{neg:Bool}{x:α}{l:List α}[dm:Decidable (x∈l)]{d:D}{S:Sto}{Q:DK}(hE:E.dep<=8)(hd:sqIs S d (l.map E.e))(q:Q (.bl (if neg then !decide (x∈l) else decide (x∈l))) S):inD neg (E.e x) d S Q:=by
 refine⟨l.map E.e,hd,bJk l,by rw[fY,b8];exact λy _=>E.ok 8 y x hE,?_⟩
 rw[decide_eq_decide.mpr (fQv (E:=E) (x:=x) (l:=l))];exact q
theorem in_t{neg:Bool}{x:α}{l:List α}[dm:Decidable (x∈l)]{d:D}{S:Sto}{Q:Bool->Sto->Prop}(hE:E.dep<=8)(hd:sqIs S d (l.map E.e))(q:Q (if neg then !decide (x∈l) else decide (x∈l)) S):inD neg (E.e x) d S (λd S1=>∃b,d=.bl b/\Q b S1):=in_e hE hd ⟨_,rfl,q⟩
end
def fzIs(d:D)(xs:List D):Prop:=d=.tup xs\/d=.lst xs
theorem fzIs.sq{S:Sto}{d:D}{xs:List D}(h:fzIs d xs):sqIs S d xs:=by rcases h with rfl|rfl <;> rfl
end L2
namespace Toy
open PySem L2
def bJl:SpD:=λds S Q=>∃(α:Type) (_:DecidableEq α) (E:Enc α) (one row:List α) (d1 d2:D),ds=[d1,d2]/\E.dep<=4/\fzIs d1 (one.map E.e)/\fzIs d2 (row.map E.e)/\row.length<=9999/\Q (.bl (mts one row)) S
def bQh:SpD:=λds S Q=>∃(α:Type) (_:DecidableEq α) (E:Enc α) (one row:List α) (d1 d2:D),ds=[d1,d2]/\E.dep<=4/\fzIs d1 (one.map E.e)/\fzIs d2 (row.map E.e)/\row.length<=9999/\Q (.bl (has one row)) S
def aZr:SpD:=λds S Q=>∃(α:Type) (_:DecidableEq α) (E:Enc α) (one row:List α) (d1 d2:D),ds=[d1,d2]/\E.dep<=4/\fzIs d1 (one.map E.e)/\fzIs d2 (row.map E.e)/\one.length<=9999/\Q (.tup ((wo one row).map E.e)) S
end Toy
set_option maxHeartbeats 1000000
namespace Toy
open PySem L2
abbrev s_meets:Stmt:=top 2
theorem sc_meets:FnScope ["one", "row"] ["one", "row"] (aQ3 s_meets):=fsc
section
variable{P:aE}{w:aQ}{K:ar}{mg:Str->Option ad}{base:aX}{pt cc:Addr}
theorem dQ9(T:Tx K mg "meets" s_meets)(B:Bs mg):Df P w K mg base 1 "meets" ["one", "row"] (spU K bJl):=by
 refine aZu T sc_meets (λF=>F.binds λ_ _ _ _ _ _=>us2 λ_ _=>rfl) ?_ λf O A outer s H E L=>⟨_,(aQ4 (aQl (eXb rfl B.any (aQ0 (aQp (N':=["name", "one"]) (oc:=none) (b:=false) [0] [] rfl sc_meets.nd (λ_ _ _=>aQa ..) (.own (.cap (i:=0) rfl (by decide +kernel) .nil)) (aQh rfl) (aZ0 (dv 1)) (cg_name (i:=0)) (λ_ _ _ _ _=>aQe (i:=0) (nd_ ["name", "one"]) rfl (a4 rfl) (.inr rfl)) (λ_ _ _ _ _=>aQo) aQj (λ_ _ _ _ _ _=>aQi rfl (by exact PD.o (e_in L (dv 0) (dv 1))))) aQ1)))),?_⟩
 ·rintro ds S Q ⟨α,dα,E,one,row,j,N,rfl,_⟩;rfl
 ·rintro ds S Q ⟨α,dα,E,one,row,j,N,rfl,Y,h1,h2,hl,q⟩;have go:∀Q':List D->Sto->Prop,Q' (row.map λd=>D.bl (decide (d∈one))) S->aZ7 (aZg 0) dYes (aJ9 (dOp (inD false) (dVar 0) (dVar 1))) (λ_=>True) [none,some j] (row.map E.e) [] S Q':=λQ' J =>
   aQn (f:=λd=>D.bl (decide (d∈one))) (λd hd Q q=>in_e (neg:=false) (E:=E) (by omega) h1.sq q) (aQ5 (by show 0+row.length<=_;omega)) J
  have e:(row.map λd=>decide (d∈one)).any id=mts one row:=by unfold mts;rw[f6];rfl
  rw[<- e] at q;rcases h2 with rfl|rfl
  ·exact⟨row.map E.e,rfl,go _ ⟨row.map λd=>decide (d∈one),by show _=_;rw[a7];rfl,aQr q⟩⟩
  ·exact⟨row.map E.e,rfl,go _ ⟨row.map λd=>decide (d∈one),by show _=_;rw[a7];rfl,aQr q⟩⟩
end
end Toy
namespace L2
open PySem PySem.Spec PyProof.Rows
structure TabF(base:aX)(mg:Str->Option ad)(c P:Addr):Prop where
 hd:PySem.W.CodeHd base c P
 bm:∃bm ob,mg "__builtins__"=some (.ref bm)/\bm≠gZ/\base.get? bm=some ob/\ob.cls=.type "module"/\ob.dict=some gZ/\ob.data=.plain
def Grow(P:Addr)(lp:Pos)(qual:Str)(ps:Array ad)(H H':Hp):Prop:=H'=H \/
 ∃c oc vs t,H c=none/\c≠P/\H'=upd (upd H P (.tbl (ps++#[c9 lp.line,c9 lp.col,.ref c]))) c (cdO c oc)/\oc.data=.fields vs/\vs[1]?=some (.str qual t)/\gY lp ps.toList=none
def fQw(H:Hp)(P:Addr)(lp:Pos)(qual:Str)(c:Addr):Prop:=∃ps oc vs t,H P=some (.tbl ps)/\gY lp ps.toList=some (.ref c)/\H c=some (cdO c oc)/\oc.data=.fields vs/\vs[1]?=some (.str qual t)
def TbV(H:Hp)(lp:Pos)(qual:Str)(ps:Array ad):Prop:=TriplesOk ps.toList/\(gY lp ps.toList=none\/∃c oc,gY lp ps.toList=some (.ref c)/\H c=some (cdO c oc)/\∃vs t,oc.data=.fields vs/\vs[1]?=some (.str qual t))
section
variable{X:Cx}{pins:List (Addr×Obj)}{σ:St}{H:Hp}{s:ah}{E:ad->ah->Prop}
theorem dQa{c P:Addr}{ps:Array ad}{qual:Str}{lp:Pos}{params:Arguments}{body:Expr}{scope:Scope}{clos:List (Str×Addr)}{Q:ad->ah->Prop}(I:Inv X pins σ H s)(hP:H P=some (.tbl ps))(tb:TbV H lp qual ps)
  (hcode:X.env.code=.ref c) (T:TabF X.base X.mg c P) (hq:X.env.qual ++ "<lambda>"=qual) (hcl:hX scope X.env=pure clos) (hdef:defaultsOf params X.env=([],[]))
  (h:∀f c' pm ctv H' s',Inv X pins σ H' s'->Grow P lp qual ps H H'->s'.heap.get? f=some (ji "<lambda>" qual params body scope clos pm c' ctv)->s'.heap.CodeRec (.ref c') qual->fQw H' P lp qual c'->s.heap.objs.size<=f->H' f=none->Q (.ref f) s') :
  aF (aB X.prog X.w) X.A (eval (.Lambda params body scope lp) X.env) Q E s:=by
 obtain⟨J,tb⟩:=tb;obtain⟨bm,ob,b1,b2,b3,b4,b5,b6⟩:=T.bm;have hPh:s.heap.get? P=some (f7 ps):=I.hok P _ hP;have nP:∀b o,X.base.get? b=some o->b≠P:=λb o e z=>by
  have:=(I.bs b o e).2
  rw[z,hP] at this;cases this
 have hgP:aS≠P:=by
  obtain⟨o,es,ep,e,_⟩:=I.mod.glob;exact nP _ _ e
 have hbG:bm≠aS:=λq=>by
  obtain⟨o,es,ep,e,hd,_⟩:=I.mod.glob;rw[q,e] at b3;cases b3;rw[hd] at b6;cases b6
 have BA:s.heap.BuiltinsAt X.mg P:=⟨bm,ob,b1,b2,hbG,nP _ _ b3,I.bk _ _ b3,b4,b5,b6⟩;refine PySem.W.kla_eval hdef ?_;rw[hq];rcases tb with hn|⟨c',oc,hf,hc,vs,t,d1,d2⟩
 ·refine PySem.W.kla_makeFunction hcl I.ok.glob (I.mod.glob.keeps I.bk) hcode (T.hd.keeps I.bk) hPh J hn hgP BA λc' ctv h' tk hx D L hrec Y=>?_;obtain⟨c2,oc,vs,t,e2,j,hd,hv⟩:=hrec;cases e2;have hfr:H c'=none:=I.hok.fresh D;have N:c'≠P:=λz=>by rw[z,hP] at hfr;cases hfr
  have bP:∀b,H b=none->b≠P:=λb e z=>by rw[z,hP] at e;cases e
  have bc:∀b u,H b=some u->b≠c':=λb u e z=>by rw[z,hfr] at e;cases e
  have lc:∀b o,s.heap.get? b=some o->b≠c':=λb o e=>Nat.ne_of_lt (Nat.lt_of_lt_of_le (aA e) D);have hfo:H h'.objs.size=none:=I.hok.fresh (Nat.le_trans D (Nat.le_of_lt L));have kk:∀(fo:Obj) b o,b≠P->s.heap.get? b=some o->(h'.push fo).get? b=some o:=λfo b o n e=>af _ (hx b o n e);refine h _ c' _ ctv (upd (upd H P (.tbl (ps++#[c9 lp.line,c9 lp.col,.ref c']))) c' (cdO c' oc)) _ (I.un ⟨?_,?_,?_,?_,?_,?_,?_⟩ ?_) (.inr ⟨c',oc,vs,t,hfr,N,rfl,hd,hv,hn⟩) (aq _ rfl) ⟨c',oc,vs,t,rfl,af _ j,hd,hv⟩ ⟨_,oc,vs,t,by rw[upd_ne (dA N),aQ9],by simpa using codeAmong_snoc (c:=.ref c') _ J hn,aQ9,hd,hv⟩ (Nat.le_trans D (Nat.le_of_lt L)) ?_
  ·exact λb o e n _ _=>kk _ b o (bP b n) e
  ·exact λb o e n _ _=>⟨o.slots,kk _ b o (bP b n) e⟩
  ·exact λb o e n _=>by rw[upd_ne (lc b o e),upd_ne (bP b n)];exact n
  ·intro b o e _
   by_cases z:b=P
   ·subst z;exact⟨_,af _ Y⟩
   ·exact⟨o,kk _ b o z e⟩
  ·intro b xs e;have z:b≠P:=λz=>by rw[z,hP] at e;cases e
   rw[upd_ne (bc b _ e),upd_ne z];exact e
  ·intro b o u e;have z:b≠P:=λz=>by rw[z,hP] at e;cases e
   rw[upd_ne (bc b _ e),upd_ne z];exact e
  ·intro b qs e
   by_cases z:b=P
   ·subst z;rw[hP] at e;cases e;exact⟨_,by rw[upd_ne (dA N),aQ9]⟩
   ·exact⟨#[],by rw[upd_ne (bc b _ e),upd_ne z,e];simp⟩
  ·intro b u e
   by_cases z1:b=c'
   ·subst z1;rw[aQ9] at e;cases e;exact⟨af _ j,⟨_,af _ j⟩,λh1 h2 q k=>k _ q⟩
   ·rw[upd_ne z1] at e
    by_cases z2:b=P
    ·subst z2;rw[aQ9] at e;cases e;exact af _ Y
    ·rw[upd_ne z2] at e;refine(I.hok b u e).stay (λO o' hb' e'=>?_) (λO e'=>?_) (λO xs e'=>?_)
     ·refine kk _ O o' ?_ e';rcases hb' with z|z
      ·rw[z];exact z2
      ·intro B;rw[B,hP] at z;cases z
     ·have B:O≠P:=λB=>by rw[B,hP] at e';cases e'
      rw[upd_ne (bc O _ e'),upd_ne B];exact e'
     ·have B:O≠P:=λB=>by rw[B,hP] at e';cases e'
      rw[upd_ne (bc O _ e'),upd_ne B];exact e'
  ·rw[upd_ne (Nat.ne_of_gt L),upd_ne (λz=>by rw[z,hP] at hfo;cases hfo)];exact hfo
 ·refine PySem.W.kla_makeFunctionHit hcl I.ok.glob (I.mod.glob.keeps I.bk) hcode (T.hd.keeps I.bk) hPh J hf BA λctv h' tk hk Z=>?_;have k2:∀(fo:Obj) b o,s.heap.get? b=some o->(h'.push fo).get? b=some o:=λfo b o e=>af _ (hk b o e);have j:s.heap.get? c'=some oc:=(I.hok c' _ hc).1;exact h _ c' _ ctv H _ (I.kept (k2 _)) (.inl rfl) (aq _ rfl) ⟨c',oc,vs,t,rfl,k2 _ _ _ j,d1,d2⟩ ⟨ps,oc,vs,t,hP,hf,hc,d1,d2⟩ Z (I.hok.fresh Z)
end
section
variable{K:Fg}{F:Am}{S:Sto}{H H':Hp}{P:Addr}{lp:Pos}{qual:Str}{ps:Array ad}
theorem Rp.tb(r:Rp K F S H)(h:S P=some (.tb lp qual)):∃ps,H P=some (.tbl ps)/\TbV H lp qual ps:=by
 obtain⟨ps,e,h1,h2⟩:=r.obj P _ h;exact⟨ps,e,h1,h2.imp id λ⟨c,oc,e1,_,e2⟩=>⟨c,oc,e1,e2⟩⟩
theorem Grow.ext(g:Grow P lp qual ps H H')(r:Rp K F S H)(h:S P=some (.tb lp qual))(hP:H P=some (.tbl ps))(tr:TriplesOk ps.toList):Ext S H S H'/\Rp K F S H':=by
 rcases g with rfl|⟨c,oc,vs,t,B,D,rfl,N,L,hn⟩
 ·exact⟨Ext.refl _ _,r⟩
 ·have ne:∀a o,H a=some o->a≠c:=λa o e z=>by rw[z,B] at e;cases e
  have x:Ext S H S (upd (upd H P (.tbl (ps++#[c9 lp.line,c9 lp.col,.ref c]))) c (cdO c oc)):=by
   refine⟨λa o h1 h2=>?_,λa ha=>?_,λa ha=>.inl ha⟩
   ·have z:a≠P:=λz=>by rw[z,h] at h1;cases h1
    rw[upd_ne (ne a o h2),upd_ne z];exact h2
   ·by_cases j:a=c
    ·rw[j,aQ9];exact λz=>by cases z
    ·rw[upd_ne j]
     by_cases J:a=P
     ·rw[J,aQ9];exact λz=>by cases z
     ·rw[upd_ne J];exact ha
  refine⟨x,λa o ha=>?_,λa ha=>?_⟩
  ·by_cases z:a=P
   ·subst z;rw[h] at ha;cases ha;refine⟨_,by rw[upd_ne (dA D),aQ9],?_,.inr ⟨c,oc,?_,?_,aQ9,vs,t,N,L⟩⟩
    ·simpa using TriplesOk_snoc _ _ _ _ tr
    ·simpa using codeAmong_snoc (c:=.ref c) _ tr hn
    ·rintro(z|z)
     ·exact z (r.sn B)
     ·obtain⟨⟨u,e,_⟩,_⟩:=r.frm c z;rw[B] at e;cases e
   ·have q:=r.obj a o ha;refine q.keep x.kp ?_;have j:a≠c:=λj=>by rw[j] at q;exact q.live B
    rw[upd_ne j,upd_ne z]
  ·obtain⟨⟨u,e,ct⟩,h2⟩:=r.frm a ha;have z:a≠P:=λz=>by rw[z,h] at h2;cases h2
   exact⟨⟨u,by rw[upd_ne (ne a u e),upd_ne z];exact e,ct⟩,h2⟩
end
section
variable{P:aE}{w:aQ}{K:ar}{mg:Str->Option ad}{base:aX}{k:Nat}
def bX1(K:ar)(mg:Str->Option ad)(x:Str)(c:Addr):Prop:=∀(f:Addr) (o:Obj) (fd:c6),mg x=some (.ref f)->K.lookup f=some o->o.data=.func fd->fd.code=.ref c
theorem eJ7{x:Str}{st:Stmt}{N ps:List Str}{sp:SpD}{c:Addr}(T:Tx K mg x st)(C:bX1 K mg x c)(S:FnScope N ps (aQ3 st))
  (b:∀{f:Addr}{fd:c6},Fun K x x st f fd->Binds K fd ps []) (len:∀ds S Q,sp ds S Q->ds.length=ps.length)
  (h:∀ (f:Addr) (A:aW) (outer:List Env) (s:ah) (H:Hp) (E:XK),Room k (A.deeper (g9 x (aQ3 st) s.heap.objs.size f (.ref c))) ->
   ∃t,PSsD K (cxOf CX0 P w K mg base N x (aQ3 st) f (.ref c) A outer s H E).nox (aZ5 st) t/\∀ds S Q,sp ds S Q->t (cQ5 Q) (aJ1 N ds) S):Df P w K mg base (k+1) x ps (spU K sp):=by
 obtain⟨f,fd,Y,m⟩:=T.ex;refine⟨f,fd,?_,b Y,Y.kp,m⟩;obtain⟨oc,od,kV,doc,pm,an,O,ct,osl,rfl,lk,L⟩:=Y.ex;obtain rfl:O=.ref c:=C f _ _ m lk rfl;refine eZ0 lk L S (λvs H Q E D=>by obtain⟨F,S,ds,QD,r,l,j,c⟩:=D;rw[l.length];exact len ds S QD j) (λA outer s H vs Q E' hr D=>?_)
 obtain⟨F,S,ds,QD,r,l,j,c⟩:=D;obtain⟨t,h1,h2⟩:=h f A outer s H E' hr;have fin:∀v d H' S',Ext S H S' H'->Rp K F S' H'->RepV K (mt S' F) H' d v->rtD QD d S'->Q v H':=λv d H' S' J B v1 Z=>by
  obtain⟨d',S2,hs,fz,q⟩:=Z;exact c v d' H' S2 (J.trans (Ext.less hs)) (B.less hs) ((cZy B hs fz).1 v v1) q
 exact⟨_,h1.o.nox,F,S,aJ1 N ds,cQ5 QD,r,bQu l,h2 ds S QD j,fun Γ' S' σ' H' J B g1 q=>fin .non .non H' S' J B (by unfold RepV;rfl) q,fin,λ_ _ _ _ _ _ _ q=>q.elim,λ_ _ _ _ _ _ _ q=>q.elim⟩
end
section
variable{prog:aE}{w:aQ}{A:aW}{R:Result->ah->Prop}{q a I S:Addr}{n:Nat}{kf:Nat->Int}{Pv:Nat->ad->Prop}{G:ah->Prop}
abbrev gB(kf:Nat->Int):Nat->Nat->Bool:=λi j=>decide (kf i>kf j)
structure Mx(prog:aE)(w:aQ)(A:aW)(q a I S:Addr)(n:Nat)(kf:Nat->Int)(Pv:Nat->ad->Prop)(G:ah->Prop):Prop where
 hh:A.in1.handled=none
 aI:a≠I
 SI:S≠I
 tup:∀s,G s->∃its:List ad,s.heap.IsTuple a its.toArray/\its.length=n/\∀(i:Nat) v,its[i]?=some v->Pv i v
 keep:∀(s:ah) h' tk',G s->(∀b o,b≠I->b≠S->s.heap.get? b=some o->h'.get? b=some o)->G {s with heap:=h',toks:=tk'}
 turn:∀i v (s:ah) oI oS,Pv i v->G s->s.heap.get? I=some oI->s.heap.get? S=some oS->aF (aB prog w) A.in1 (call (.ref q) [v]) (λx s'=>G s'/\(∃t,x=.int (kf i) t)/\s'.heap.get? I=some oI/\s'.heap.get? S=some oS) (λ_ _=>False) s
theorem Mx.loop(M:Mx prog w A q a I S n kf Pv G)(fin:∀v s,Pv (cW (gB kf) (n-1)) v->G s->R (.ok (.ret v)) s) :
  ∀(left j:Nat) (s:ah) (vb:ad) (tb:Tok) (c:Nat),j+1+left=n->G s->s.heap.IsTupleIter I a (j+1)->Pv (cW (gB kf) j) vb->s.heap.get? S=some (b7 "list" #[vb,.int (kf (cW (gB kf) j)) tb] c) ->
   eN (aB prog w) A (.builtin "max.loop" ⟨[.ref I,.ref q,.ref S],[]⟩) R s:=by
 have word:(toString "max"++toString ".loop":String)="max.loop":=by decide
 intro left
 induction left with
 |zero =>
  intro j s vb tb c hj g it hb hs;obtain⟨its,Z,hl,hp⟩:=M.tup s g;have W:=jn (prog:=prog) (w:=w) (A:=A.in1) M.hh I a M.aI its.toArray;have e:its.toArray.size=j+1:=by simp;omega
  rw[e] at W;refine cQ F.entry_max_loop ?_;rw[bJ F.plain_max_loop _];show aF (aB prog w) A.in1 (iO (.ref S)>>=_) _ _ s;refine aa (bT hs rfl ?_);show aF (aB prog w) A.in1 (jo (eL (.ref I)) _>>=_) _ _ s;refine aa (eG (W.done s _ _ ⟨it,Z⟩ λh1 B k1=>?_));have J:=k1 S _ (by simpa using M.SI) hs
  show aF (aB prog w) A.in1 (updateSeq S (λ_=>#[])>>=_) _ _ _;refine aa ?_;refine eW J rfl (aa (fm (ae (fin vb _ ?_ ?_))))
  ·have e:n-1=j:=by omega
   rw[e];exact hb
  ·exact M.keep s _ B g λb o hI hS e=>(bi _ _ (dA hS)).trans (k1 b o (by simpa using hI) e)
 |succ left ih =>
  intro j s vb tb c hj g it hb hs;obtain⟨its,Z,hl,hp⟩:=M.tup s g;have W:=jn (prog:=prog) (w:=w) (A:=A.in1) M.hh I a M.aI its.toArray;refine cQ F.entry_max_loop ?_;rw[bJ F.plain_max_loop _];show aF (aB prog w) A.in1 (iO (.ref S)>>=_) _ _ s;refine aa (bT hs rfl ?_);show aF (aB prog w) A.in1 (jo (eL (.ref I)) _>>=_) _ _ s;refine aa (eG (W.item (j+1) s _ _ (by simp;omega) ⟨it,Z⟩ λv h1 B hv N k1=>?_))
  have J:=k1 S _ (by simpa using M.SI) hs
  have g1:=M.keep s h1 B g λb o hI _ e=>k1 b o (by simpa using hI) e
  obtain⟨O,i1,i2,i3⟩:=N.1;have pv:Pv (j+1) v:=hp _ _ (by simpa using hv)
  show aF (aB prog w) A.in1 (jo (ft [v] (call (.ref q) [v])) _>>=_) _ _ _;refine aa (eG (bb (cj (M.turn (j+1) v _ O _ pv g1 i1 J) (λx s2 he=>?_) λ_ _ hF=>hF.elim)));obtain⟨g2,⟨tx,rfl⟩,i4,D⟩:=he;have Y:s2.heap.IsTupleIter I a (j+1+1):=⟨O,i4,i2,i3⟩;show aF (aB prog w) A.in1 (jo (ft [v,.int (kf (j+1)) tx] (richCompare .Gt (.int (kf (j+1)) tx) (.int _ tb)>>=_)) _>>=_) _ _ _;refine aa (eG (bb (aa (CmpOf.ints_gt (prog:=prog) (w:=w) (A:=A.in1) (P:=λi v=>∃t,v=.int (kf i) t) kf (λi v h=>h) (j+1) (cW (gB kf) j) _ _ _ _ _ ⟨tx,rfl⟩ ⟨tb,rfl⟩ ?_))));refine aa (bb (eh (aa (fm (ae ?_)))));show aF (aB prog w) A.in1 (if decide (kf (j+1)>kf (cW (gB kf) j))=true then _ else _) _ _ _
  cases e:decide (kf (j+1)>kf (cW (gB kf) j)) with
  |true =>
   rw[if_pos rfl];refine aa ?_;refine eW D rfl (aa (fm ?_));rw[word];have hs3:(s2.heap.update S (bD λ_=>#[v,.int (kf (j+1)) tx])).get? S=some (b7 "list" #[v,.int (kf (j+1)) tx] _):=d8 D λ_=>#[v,.int (kf (j+1)) tx];have L:cW (gB kf) (j+1)=j+1:=by simp only[cW,gB,e,if_true]
   refine ae ⟨da F.plain_max_loop _,ih (j+1) _ v tx _ (by omega) (M.keep s2 _ s2.toks g2 λb o _ hS e=>(bi _ _ (dA hS)).trans e) ⟨O,(bi _ _ M.SI).trans i4,i2,i3⟩ (by rw[L];exact pv) (by rw[L];exact hs3)⟩
  |false =>
   rw[if_neg (by simp)]
   refine aa (fm ?_);rw[word];have L:cW (gB kf) (j+1)=cW (gB kf) j:=by simp only[cW,gB,e,bS,if_false]
   refine ae ⟨da F.plain_max_loop _,ih (j+1) s2 vb tb c (by omega) g2 Y (by rw[L];exact hb) (by rw[L];exact D)⟩
theorem cXh{E:ad->ah->Prop}{Q:ad->ah->Prop}{s:ah}(M:Mx prog w A q a s.heap.objs.size (s.heap.objs.size+1) n kf Pv G)(hn:0<n)(g:G s)(fin:∀v s,Pv (cW (gB kf) (n-1)) v->G s->Q v s) :
  aF (aB prog w) A (call (.builtin "max") [.ref a] [(Str.ofString "key",.ref q)]) Q E s:=by
 have word:(toString "max"++toString ".loop":String)="max.loop":=by decide
 obtain⟨its,N,hl,hp⟩:=M.tup s g;refine kmk_tree F.kind_max F.plain_max F.entry_max (kmk_max_key _ _) ?_;have bp:gV "max" ["key", "default"] 0 ⟨[],[(Str.ofString "key",.ref q)]⟩=pure [some (.ref q),none]:=rfl;show aF (aB prog w) A.in1 (gV "max" ["key", "default"] 0 ⟨[],[(Str.ofString "key",.ref q)]⟩>>=_) _ _ s;refine aa (wpAny_of_eq bp ?_);show aF (aB prog w) A.in1 (pure (fq a)>>=λitems=>pyIter items>>=_) _ _ s;refine aa (ae ?_);refine aa (eR N ?_);refine aa (bd ?_);rw[word];have hal:a<s.heap.objs.size:=let ⟨_,ho,_⟩:=N;aA ho
 let h0:=s.heap.push {cls:=.type "tuple_iterator",data:=.fields #[.ref a,.int 0 0]}
 have hz:h0.objs.size=s.heap.objs.size+1:=cZ _ _;show aF (aB prog w) A.in1 (again (Code.builtin "max.loop" ⟨[.ref s.heap.objs.size,.ref q,.ref h0.objs.size],[]⟩)) _ _ {s with heap:=h0.push (b7 "list" #[] 0)}
 have B:(h0.push (b7 "list" #[] 0)).get? (s.heap.objs.size+1)=some (b7 "list" #[] 0):=by rw[<- hz];exact aq _ rfl
 have k0:∀b o,s.heap.get? b=some o->(h0.push (b7 "list" #[] 0)).get? b=some o:=λb o e=>af _ (af _ e);have L:(h0.push (b7 "list" #[] 0)).IsTupleIter s.heap.objs.size a 0:=⟨_,af _ (aq _ rfl),rfl,rfl⟩;rw[hz];have W:=jn (prog:=prog) (w:=w) (A:=A.in1) M.hh s.heap.objs.size a M.aI its.toArray;refine ae ⟨da F.plain_max_loop _,cQ F.entry_max_loop ?_⟩;rw[bJ F.plain_max_loop _];show aF (aB prog w) A.in1 (iO (.ref (s.heap.objs.size+1))>>=_) _ _ {s with heap:=h0.push (b7 "list" #[] 0)}
 refine aa (bT B rfl ?_);show aF (aB prog w) A.in1 (jo (eL (.ref s.heap.objs.size)) _>>=_) _ _ {s with heap:=h0.push (b7 "list" #[] 0)}
 refine aa (eG (W.item 0 _ _ _ (by simp;omega) ⟨L,N.at λo e=>k0 _ o e⟩ λv h1 D hv J k1=>?_))
 have Y:=k1 (s.heap.objs.size+1) _ (by simp) B
 have g1:=M.keep s h1 D g λb o hI _ e=>k1 b o (by simpa using hI) (k0 b o e)
 obtain⟨Z,i1,i2,i3⟩:=J.1;have pv:Pv 0 v:=hp _ _ (by simpa using hv)
 show aF (aB prog w) A.in1 (jo (ft [v] (call (.ref q) [v])) _>>=_) _ _ _;refine aa (eG (bb (cj (M.turn 0 v _ Z _ pv g1 i1 Y) (λx s2 he=>?_) λ_ _ hF=>hF.elim)));obtain⟨g2,⟨tx,rfl⟩,i4,j⟩:=he;show aF (aB prog w) A.in1 (updateSeq (s.heap.objs.size+1) (λ_=>#[v,.int (kf 0) tx])>>=_) _ _ _;refine aa ?_;refine eW j rfl ?_;rw[word];have O:(s2.heap.update (s.heap.objs.size+1) (bD λ_=>#[v,.int (kf 0) tx])).get? (s.heap.objs.size+1)=some (b7 "list" #[v,.int (kf 0) tx] _):=d8 j λ_=>#[v,.int (kf 0) tx];exact ae ⟨da F.plain_max_loop _,M.loop (R:=wants Q E) fin (n-1) 0 _ v tx _ (by omega) (M.keep s2 _ s2.toks g2 λb o _ hS e=>(bi _ _ (dA hS)).trans e) ⟨Z,(bi _ _ M.SI).trans i4,i2,i3⟩ pv O⟩
end
def dQb(X:Cx)(s:ah)(H:Hp)(env:Env)(x:Str):Cx:={X with A:=X.A.in1.deeper env,N:=x::X.N,s₀:=s,H₀:=H,env:=env,outer:=X.stack,stack:=env::X.stack,ex:=[],calm:=true,fn:=λ_=>false,pn:=[],xe:=λ_ _=>False}
structure LamOk(X:Cx)(x z:Str)(scope:Scope)(c:Addr):Prop where
 kind:scope.kind=.function
 co:scope.isCoroutine=false
 gen:scope.isGenerator=false
 par:scope.names.lookup x=some .local
 all:∀p∈scope.names,p.2≠.cell/\(p.2=.local->p.1=x)/\(p.2=.free->p.1=z)
 xN:x∉X.N
 fr:X.env.cells.lookup z=some c
 zc:X.env.kindOf z=some .cell
abbrev bZ3(x:Str)(p:Pos):Arguments:={posonlyargs:=[],args:=[{arg:=x,annotation:=none,pos:=p}],vararg:=none,kwonlyargs:=[],kw_defaults:=[],kwarg:=none,defaults:=[]}
abbrev bJm(scope:Scope)(L f c':Addr)(z:Str)(c:Addr)(qual:Str):Env:=newEnv scope L aS [(z,c)] (qual ++ ".<locals>.") (some f) (.ref c') none gZ
section
variable{X:Cx}{pins:List (Addr×Obj)}{σ:St}{H:Hp}{s:ah}
theorem dJ8{x z:Str}{scope:Scope}{c c' f:Addr}{qual:Str}{v:ad}{pv:V}{h1:aX}{tk:Tok}(O:LamOk X x z scope c)(hc:X.calm=true)(I:Inv X pins σ H s)(rv:RelV pv v)
  (hn:h1.Ns s.heap.objs.size (λy=>[(x,v)].reverse.lookup y)) (hs:cR s.heap.objs.size (s.heap.push {cls:=.type "frame",data:=.dict #[]}) h1) :
  Inv (dQb X s H (bJm scope s.heap.objs.size f c' z c qual) x) [] (some pv::σ) H {s with heap:=h1,toks:=tk}:=by
 have J:∀b o,s.heap.get? b=some o->h1.get? b=some o:=λb o e=>hs.extBut b o (Nat.ne_of_lt (aA e)) (af _ e);have one:∀y d,[(z,c)].lookup y=some d->y=z/\d=c:=λy d e=>by
  rw[cE] at e
  split at e
  ·rename_i q;cases e;exact⟨gq q,rfl⟩
  ·cases e
 obtain⟨m,m1,m2⟩:=I.loc;have j:∀ y k,scope.names.lookup y=some k->k≠.cell/\(k=.local->y=x)/\(k=.free->y=z):=λy k e=>O.all (y,k) (dO e);refine⟨⟨I.ok.mod,O.kind,rfl,rfl,Nat.le_refl _,λy Z d h h'=>?_,λy D=>?_,λy d h=>(nomatch h),λ_=>I.ok.hd hc,Around.frames_deeper (show X.A.in1.frames=some X.stack from I.ok.frames),I.ok.gd,.inr ⟨rfl,rfl⟩,λb h=>(nomatch h),I.bs,Nat.le_trans I.ok.bsz I.sz,λb o _ h=>(nomatch h),λb h=>(nomatch h),I.stack,I.stkFree⟩,
  rfl,I.bare,Un.kept J,⟨_,hn,λi y w h1 h2 h3=>?_⟩,λy d h=>?_,I.hok.fresh (Nat.le_refl _),λy d h=>?_,λp hp=>(nomatch hp),I.hok.kept J,?_⟩
 ·rw[(one y d h).1,(one Z d h').1]
 ·rcases D with D|D
  ·exact absurd rfl (j y _ D).1
  ·obtain rfl:=(j y _ D).2.2 rfl;exact⟨c,gk ..⟩
 ·cases i with
  |zero =>
   have e1:x=y:=aR h1;have e2:pv=w:=aR (aR h2);subst e1 e2;exact⟨v,rv,.inl ⟨O.par,gk ..⟩⟩
  |succ i =>
   have h1:X.N[i]?=some y:=h1;have h2:σ[i]?=some (some w):=h2;have L:scope.names.lookup y=some .free/\y=z:=by
    rcases h3 with q|q|q
    ·exact absurd (ao h1) (by rw[(j y _ q).2.1 rfl];exact O.xN)
    ·exact absurd rfl (j y _ q).1
    ·exact⟨q,(j y _ q).2.2 rfl⟩
   obtain⟨q,rfl⟩:=L;obtain⟨u,r,l⟩:=m2 i y w h1 h2 (.inr (.inl O.zc));rcases l with⟨l,_⟩|⟨_,d,hd,B⟩
   ·rw[O.zc] at l;cases l
   ·rw[O.fr] at hd;cases hd;obtain⟨o,Y,hd⟩:=B;exact⟨u,r,.inr ⟨.inr q,c,gk ..,o,J _ _ Y,hd⟩⟩
 ·obtain⟨rfl,rfl⟩:=one y d h;obtain⟨w,o,Y,hw⟩:=I.cell _ _ O.fr;exact⟨w,o,J _ _ Y,hw⟩
 ·obtain⟨rfl,rfl⟩:=one y d h;exact I.freeC _ _ O.fr
 ·show σ.length+1=X.N.length+1;rw[I.len]
theorem dJ9{x z:Str}{scope:Scope}{c c' f:Addr}{qual:Str}{v pm ctv:ad}{pv:V}{body:Expr}{p0:Pos}{t:TE}{Q:VK}(O:LamOk X x z scope c)(hc:X.calm=true)(hroom:X.A.in1.depth<g7)(I:Inv X pins σ H s)
  (ho:s.heap.get? f=some (ji "<lambda>" qual (bZ3 x p0) body scope [(z,c)] pm c' ctv)) (hcd:s.heap.CodeRec (.ref c') qual) (rv:RelV pv v)
  (hbd:∀(c':Addr) (f:Addr) (pm ctv v:ad),bindArgs (jp "<lambda>" qual (bZ3 x p0) body scope [(z,c)] pm (.ref c') ctv) ⟨[v],[]⟩=pure [(x,v)])
  (hb:∀L,PE (dQb X s H (bJm scope L f c' z c qual) x) body t) (q:t (some pv::σ) H Q) :
  aF (aB X.prog X.w) X.A.in1 (call (.ref f) [v]) (CE X.stack X.prog X.w H s Q) (λ_ _=>False) s:=by
 refine wpAny_call (PySem.W.kla_callFunE hroom ho rfl O.co O.gen rfl hcd ?_);have j:=hbd c' f pm ctv v;rw[j];refine ae (wpAny_newFunctionEnv (λy D=>(O.all y D).1) (λy D=>by rw[aL.mp D];exact O.par) (λh1 hn hs=>?_) O.kind)
 have J:=dJ8 (tk:=s.toks+1) (f:=f) (c':=c') (qual:=qual) O hc I rv hn hs;refine⟨J.nolimit,PySem.W.kla_codeExpr ?_⟩;refine cj (hb _ [] _ _ _ Q J q) (λu s' ⟨y,H',B,r,N⟩=>?_) λ_ _ z=>db z;exact⟨y,H',B.os,B.bare,B.base,B.hok,r,N⟩
end
section
variable{X:Cx}{pins:List (Addr×Obj)}{σ:St}{H:Hp}{s:ah}
theorem Inv.turned2{h':aX}{t':Nat}{i j:Addr}(I:Inv X pins σ H s)(k:∀b o,b≠i->b≠j->s.heap.get? b=some o->h'.get? b=some o)(hi:H i=none)(hj:H j=none)
  (ai:X.s₀.heap.objs.size<=i/\i≠X.env.locals/\(∀x c,X.env.cells.lookup x=some c->c≠i)/\∀p∈X.pn++pins,p.1≠i) (aj:X.s₀.heap.objs.size<=j/\j≠X.env.locals/\(∀x c,X.env.cells.lookup x=some c->c≠j)/\∀p∈X.pn++pins,p.1≠j):Inv X pins σ H {s with heap:=h',toks:=t'}:=by
 have J:∀b u,H b=some u->b≠i/\b≠j:=λb u e=>⟨λz=>(by rw[z,hi] at e;cases e),λz=>(by rw[z,hj] at e;cases e)⟩
 have go:∀b o,b∉[i,j]->s.heap.get? b=some o->h'.get? b=some o:=λb o B=>k b o (λz=>B (by simp[z])) (λz=>B (by simp[z]))
 refine I.call (d':=s.drawn) (g':=s.gens) (ch:=[i,j]) ⟨λb o e _ _ B=>go b o B e,λb o e _ _ B=>⟨o.slots,go b o B e⟩,λ_ _ _ n _=>n,λb o e B=>⟨o,go b o B e⟩,λ_ _ e=>e,λ_ _ _ e=>e,λ_ ps e=>⟨#[],by rw[e];simp⟩⟩ (λb u e=>?_) I.bare λb D=>?_
 ·refine(I.hok b u e).stay (λc v B q=>?_) (λ_ q=>q) λ_ _ q=>q
  have:c≠i/\c≠j:=by
   rcases B with z|z
   ·rw[z];exact J b u e
   ·exact J c _ z
  exact k c v this.1 this.2 q
 ·rcases aM.mp D with rfl|D
  ·exact⟨.inr ai.1,ai.2⟩
  ·rw[aL.mp D];exact⟨.inr aj.1,aj.2⟩
theorem Inv.fresh4(I:Inv X pins σ H s){b:Addr}(h:s.heap.objs.size<=b):X.s₀.heap.objs.size<=b/\b≠X.env.locals/\(∀x c,X.env.cells.lookup x=some c->c≠b)/\∀p∈X.pn++pins,p.1≠b:=by
 refine⟨Nat.le_trans I.sz h,λz=>?_,λx c e z=>?_,λp j z=>?_⟩
 ·have:=I.lt
  exact absurd (Nat.lt_of_lt_of_le this h) (by rw[z];exact Nat.lt_irrefl _)
 ·obtain⟨v,o,B,_⟩:=I.cell x c e;exact absurd (Nat.lt_of_lt_of_le (aA B) h) (by rw[z];exact Nat.lt_irrefl _)
 ·exact absurd (Nat.lt_of_lt_of_le (aA (I.pin p j).1) h) (by rw[z];exact Nat.lt_irrefl _)
theorem Inv.nostack(I:Inv X pins σ H s){b:Addr}(h:s.heap.objs.size<=b):b∉frs X.stack:=λz=>by
 rcases aM.mp (I.stkSub b z) with e|e
 ·exact(I.fresh4 h).2.1 e
 ·exact I.nofs h e
end
section
variable{X:Cx}{K:Fg}{pos:Pos}{k:Nat}
def fQx(K:Fg)(P:Addr)(lp:Pos)(qual:Str)(te tb:TE):TE:=fun σ H Q=>te σ H λx H1=>∃ps,H1 P=some (.tbl ps)/\TbV H1 lp qual ps/\∀H2,Grow P lp qual ps H1 H2 ->
 ∃(a:Addr) (us:List V) (kf:Nat->Int) (Gd:Hp->Prop),x=.ref a/\us≠[]/\Gd H2/\(∀H3,Gd H3->SqT K H3 a us)/\(∀H3 c oc ps,Gd H3->H2 P=some (.tbl ps)->gY lp ps.toList=some (.ref c)->H2 c=some (cdO c oc)->H3 c=some (cdO c oc)) /\
  (∀H3 (i:Nat) u,Gd H3->us[i]?=some u->tb (some u::σ) H3 λy H4=>y=.int (kf i)/\Gd H4)/\∀H3 u,Gd H3->us[cW (gB kf) (us.length-1)]?=some u->Q u H3
theorem dJa{e body:Expr}{c cP P:Addr}{qual x z:Str}{scope:Scope}{p p0 lp kp:Pos}{te tb:TE}(hr:Room k X.A)(hg:Gl X "max")(hm:X.mg "max"=none)(he:PE X e te)(hcode:X.env.code=.ref cP)(T:TabF X.base X.mg cP P)(hq:X.env.qual ++ "<lambda>"=qual)
  (O:LamOk X x z scope c) (hcl:hX scope X.env=pure [(z,c)])
  (hbd:∀(c' f:Addr) (pm ctv v:ad),bindArgs (jp "<lambda>" qual (bZ3 x p0) body scope [(z,c)] pm (.ref c') ctv) ⟨[v],[]⟩=pure [(x,v)])
  (hb:∀s H L f c',PE (dQb X s H (bJm scope L f c' z c qual) x) body tb) (hK:X.K=K:=by rfl) (hc:X.calm=true:=by rfl)
  (g1:cq pos (az [e] X.env)=[(false,eval e X.env)]:=by rfl) (g2:(iK pos (fN [⟨some "key",.Lambda (bZ3 x p0) body scope lp,kp⟩] X.env)).filterMap (·.1)=[("key":Str)]:=by rfl) :
  PE X (.Call (.Name "max" p) [e] [⟨some "key",.Lambda (bZ3 x p0) body scope lp,kp⟩] pos) (fQx K P lp qual te tb):=by
 subst hK;intro pins s σ H Q I h;refine eO (ld_blt I hg hm (show cf "max"=some (.builtin "max") from rfl) ?_ (by decide) (by decide))
 have h3:(cq pos (az [e] X.env)).any (·.1)=false:=by rw[g1];rfl
 have h4:cq pos (az [e] X.env)=(false,eval e X.env)::cq pos (az [] X.env):=by rw[g1];rfl
 refine callWith_kw ?_ h4 h3 rfl rfl;rw[g1,g2];refine eM (thn (he pins s σ H _ I h) λv s1 ⟨y,H1,I1,r1,ps,hP,tb,q1⟩=>fR ?_);refine kws_cons (dQa I1 hP tb hcode T hq hcl rfl λf c' pm ctv H2 s2 D gr ho hcr it hf hfn=>kws_nil ?_);obtain⟨a,us,kf,Gd,rfl,ne,g2,gt,gc,gtu,gf⟩:=q1 H2 gr;cases r1;have hh:X.A.in1.handled=none:=by simp[D.ok.hd hc]
 obtain⟨ps',oc,vs',t',i1,i2,i3,i4,i5⟩:=it;have zI:=D.fresh4 (Nat.le_refl _);have zS:=D.fresh4 (Nat.le_succ _);have fI:=D.hok.fresh (Nat.le_refl _);have fS:=D.hok.fresh (Nat.le_succ _);have lf:f<s2.heap.objs.size:=aA ho;have nss:∀b,s2.heap.objs.size<=b->b∉frs X.stack:=λb=>D.nostack;obtain⟨its0,rv0,pl0,_⟩:=D.tuple (gt H2 g2);have ha:a<s2.heap.objs.size:=let ⟨_,ho,_⟩:=pl0;aA ho
 refine cXh (n:=us.length) (kf:=kf) (Pv:=λi v=>∃u,us[i]?=some u/\RelV u v) (G:=λs3=>∃j,Inv X pins σ j s3/\Gd j/\s3.heap.get? f=some (ji "<lambda>" qual (bZ3 x p0) body scope [(z,c)] pm c' ctv)/\j f=none/\j s2.heap.objs.size=none/\j (s2.heap.objs.size+1)=none)
  ⟨hh,Nat.ne_of_lt ha,Nat.succ_ne_self _,?_,?_,?_⟩ (cV.mpr ne) ⟨H2,D,g2,ho,hfn,fI,fS⟩ ?_
 ·rintro s3 ⟨j,B,g3,_⟩;obtain⟨its,N,pl,_⟩:=B.tuple (gt j g3);refine⟨its,pl,N.length.symm,λi v hv=>?_⟩;have hi:=(aD.mp hv).1;obtain⟨w,h1,h2⟩:=N.get (ag (show i<us.length by rw[N.length];exact hi))
  rw[hv] at h1;cases h1;exact⟨_,ag (show i<us.length by rw[N.length];exact hi),h2⟩
 ·rintro s3 h' tk' ⟨j,B,g3,Y,f3,n1,Z⟩ hk;exact⟨j,B.turned2 hk n1 Z zI zS,g3,hk f _ (Nat.ne_of_lt lf) (Nat.ne_of_lt (Nat.lt_succ_of_lt lf)) Y,f3,n1,Z⟩
 ·rintro i v s3 oI oS ⟨u,hu,ru⟩ ⟨j,B,g3,Y,f3,n1,Z⟩ eI eS;have hoc:s3.heap.get? c'=some oc:=(B.hok c' _ (gc j c' oc ps' g3 i1 i2 i3)).1;refine cj (dJ9 (Q:=λy J=>y=.int (kf i)/\Gd J) O hc (show X.A.depth<g7 from hr.depth) B Y ⟨c',oc,vs',t',rfl,hoc,i4,i5⟩ ru hbd (λL=>hb _ _ L f c') (gtu j i u g3 hu)) (λx s4 ce=>?_) λ_ _ z=>z
  obtain⟨y,J,os,bare,un,hok,r,rfl,g4⟩:=ce;have kp:∀b o,s2.heap.objs.size<=b\/b=f->s3.heap.get? b=some o->j b=none->s4.heap.get? b=some o/\J b=none:=λb o hb e n=>by
   refine⟨un.keep b o e n (λz=>?_) (by simp),un.free b o e n (by simp)⟩
   rcases hb with hb|rfl
   ·exact nss b hb z
   ·exact I1.nostack hf z
  have k1:=kp _ _ (.inr rfl) Y f3;have k2:=kp _ _ (.inl (Nat.le_refl _)) eI n1;have k3:=kp _ _ (.inl (Nat.le_succ _)) eS Z;have I4:Inv X pins σ J s4:=B.call' (ch:=[]) os un hok bare (λb hb=>(nomatch hb))
  exact⟨⟨J,I4,g4,k1.1,k1.2,k2.2,k3.2⟩,let ⟨t,e⟩:=(show ∃t,x=iH (kf i) t from r);⟨t,e⟩,k2.1,k3.1⟩
 ·rintro v s3 ⟨u,hu,ru⟩ ⟨j,B,g3,_⟩;exact⟨u,j,B,ru,gf j u g3 hu⟩
def fQy(P:Addr)(lp:Pos)(qual:Str)(te tb:ED):ED:=fun Γ S Q=>te Γ S λd S1=>S1 P=some (.tb lp qual)/\∃(xs:List D) (kf:Nat->Int),d=.tup xs/\xs≠[]/\(∀(i:Nat) x,xs[i]?=some x->tb (some x::Γ) S1 λy S2=>y=.int (kf i)/\S2=S1)/\∀x,xs[cW (gB kf) (xs.length-1)]?=some x->Q x S1
theorem eJ8{e body:Expr}{c cP P:Addr}{qual x z:Str}{scope:Scope}{p p0 lp kp:Pos}{te tb:ED}(hr:Room k X.A)(hg:Gl X "max")(hm:X.mg "max"=none)(T:TabF X.base X.mg cP P)(he:PD K X e te)
  (O:LamOk X x z scope c) (hb:∀s H L f c',PD K (dQb X s H (bJm scope L f c' z c qual) x) body tb) (hcode:X.env.code=.ref cP:=by rfl) (hq:X.env.qual ++ "<lambda>"=qual:=by rfl) (hcl:hX scope X.env=pure [(z,c)]:=by rfl)
  (hbd:∀(c' f:Addr) (pm ctv v:ad),bindArgs (jp "<lambda>" qual (bZ3 x p0) body scope [(z,c)] pm (.ref c') ctv) ⟨[v],[]⟩=pure [(x,v)]:=by intros;rfl) (hK:X.K=K:=by rfl) (hc:X.calm=true:=by rfl)
  (g1:cq pos (az [e] X.env)=[(false,eval e X.env)]:=by rfl) (g2:(iK pos (fN [⟨some "key",.Lambda (bZ3 x p0) body scope lp,kp⟩] X.env)).filterMap (·.1)=[("key":Str)]:=by rfl) :
  PD K X (.Call (.Name "max" p) [e] [⟨some "key",.Lambda (bZ3 x p0) body scope lp,kp⟩] pos) (fQy P lp qual te tb) :=
 .of (dJa hr hg hm he.o hcode T hq O hcl hbd (λs H L f c'=>(hb s H L f c').o) hK hc g1 g2) fun σ H Q z0=>z0.el λF S Γ QD r g q c =>
  ⟨F,S,Γ,_,r,g,q,λv d H1 J x1 r1 v1 z1=>by
   obtain⟨hS,xs,kf,rfl,ne,turn,q1⟩:=z1;obtain⟨ps,hP,tb⟩:=r1.tb hS;refine⟨ps,hP,tb,λH2 gr=>?_⟩;obtain⟨Y,r2⟩:=gr.ext r1 hS hP tb.1;have v2:=v1.ext Y;unfold RepV at v2;obtain⟨a,us,rfl,ta,l⟩:=v2;have g2:=(g.ext x1).ext Y;have c2:=Cn.shift c (x1.trans Y);refine⟨a,us,kf,λB=>Ext J H2 J B/\Rp K F J B,rfl,λz=>ne (bX (by rw[<- l.length,z];rfl)),⟨Ext.refl _ _,r2⟩,?_,?_,?_,?_⟩
   ·rintro B ⟨j,D⟩;exact(ta.keep j.kp).sq
   ·rintro B c oc ps' ⟨j,D⟩ h1 h2 h3;obtain⟨ps2,e1,_,h⟩:=r2.obj P _ hS;rw[h1] at e1;cases e1;rcases h with h|⟨c1,oc1,e2,nm,e3,_⟩
    ·rw[h2] at h;cases h
    ·rw[h2] at e2;cases e2;refine j.keep c _ ?_ h3;cases e:J c with
     |none=>rfl
     |some o=>exact absurd (.inl (by rw[e];exact λz=>by cases z)) nm
   ·rintro B i u ⟨j,D⟩ hu;obtain⟨xd,N,Z⟩:=l.get' hu;exact⟨F,J,some xd::Γ,_,D,⟨u,σ,rfl,Z.ext j,g2.ext j⟩,turn i xd N,λv d H4 S4 x4 r4 v4 ⟨ed,es⟩=>by
     subst ed es;unfold RepV at v4;exact⟨v4,j.trans x4,r4⟩⟩
   ·rintro B u ⟨j,D⟩ hu;obtain⟨xd,N,Z⟩:=l.get' hu;rw[l.length] at N;exact(Cn.shift c2 j).here D (Z.ext j) (q1 xd N)⟩
end
end L2
set_option maxHeartbeats 4000000
namespace L2
open PySem
theorem Srt.filter{l:List Str}(h:Srt l)(p:Str->Bool):Srt (l.filter p):=List.Pairwise.filter p h
end L2
namespace Toy
open PySem L2
end Toy
namespace L2
open PySem
end L2
namespace Toy
open PySem L2
end Toy
namespace L2
open PySem
end L2
namespace Toy
open PySem L2
end Toy
namespace L2
open PySem
end L2
namespace Toy
open PySem L2
end Toy
namespace L2
open PySem
open Toy
theorem fQz{P:Prop}[Decidable P](h:P):D.bl (if false=true then !decide P else decide P)=D.bl true:=by rw[decide_eq_true h];rfl
end L2
namespace L2
open PySem
open Toy
theorem dQc(ts:List (List Str))(i:Nat):cutD (ts.map tupS) none (some (i:Int))=(ts.take i).map tupS:=by
 show((ts.map tupS).drop 0).take (HT.sIx (ts.map tupS).length (ts.map tupS).length (some ((i:Nat):Int))-0)=_;rw[HT.sIx_nat,jm,Nat.sub_zero,jx];rcases Nat.le_total i (ts.map tupS).length with h|h
 ·rw[Nat.min_eq_left h]
 ·rw[Nat.min_eq_right h,dY,aZ h]
end L2
set_option maxHeartbeats 1000000
namespace L2
open PySem
def chF:List (List Str)->List (List Str)->List (List Str)
 |acc,[]=>acc
 |acc,t::ts=>chF (if acc.any (λo=>mts t o)=true then acc else acc++[t]) ts
def chs(ts:List (List Str)):List (List Str):=chF [] ts
def hmh(ts:List (List Str))(n:Str):Nat:=(ts.filter λt=>decide (n∈t)).length
def mst(ts:List (List Str))(ns:List Str):Str:=ns.getD (cW (gB λi=>(hmh ts (ns.getD i ⟨#[]⟩):Int)) (ns.length-1)) ⟨#[]⟩
def nmW(ts:List (List Str)):Str:=mst ts (nms (chs ts))
def goW(m:Nat)(ts:List (List Str)):Bool:=decide ((chs ts).length<m)&&(chs ts).any λt=>!t.isEmpty
def wayS(m:Nat):Nat->List (List Str)->List (Nat×Str×Nat)×List (List Str)
 |0,ts=>([],ts)
 |f+1,ts=>if goW m ts=true then (((chs ts).length,nmW ts,ts.length)::(wayS m f (lnk ts [nmW ts])).1,(wayS m f (lnk ts [nmW ts])).2) else ([],ts)
def tkW(r:List (Nat×Str×Nat)×List (List Str)):List Str:=r.1.map λs=>s.2.1
def pag(cs:List (List Str))(tk:List Str):List (List Str):=srT (cs.map λt=>srS (t++tk))
def flW(m:Nat)(r:List (Nat×Str×Nat)×List (List Str)):Option (List (List Str)):=if (chs r.2).length<m then none else some (pag ((chs r.2).take m) (tkW r))
def stD(s:Nat×Str×Nat):D:=.tup [.int (s.1:Nat),.str s.2.1,.int (s.2.2:Nat)]
def laD(us:List (List Str)):D:=.tup [.int ((chs us).length:Nat),.non,.int (us.length:Nat)]
def trD(r:List (Nat×Str×Nat)×List (List Str)):D:=.tup (r.1.map stD++[laD r.2])
def opT:Option (List (List Str))->D
 |none=>.non
 |some l=>.tup (l.map tupS)
def wayD(m:Nat)(ts:List (List Str)):D:=.tup [opT (flW m (wayS m 6 ts)),trD (wayS m 6 ts)]
def Ap2(l:List (List Str)):Prop:=l.Pairwise λa b=>∀x∈a,x∉b
theorem bXs:∀(ts acc:List (List Str)),∃l,chF acc ts=acc++l/\l.Sublist ts
 |[],acc=>⟨[],(br acc).symm,.slnil⟩
 |t::ts,acc=>by
  unfold chF
  split
  ·obtain⟨l,e,h⟩:=bXs ts acc;exact⟨l,e,h.cons t⟩
  ·obtain⟨l,e,h⟩:=bXs ts (acc++[t]);exact⟨t::l,by rw[e,aY];rfl,h.cons₂ t⟩
theorem aQx(ts:List (List Str)):(chs ts).Sublist ts:=by
 obtain⟨l,e,h⟩:=bXs ts [];unfold chs;rw[e];exact h
theorem cXi:∀(ts acc:List (List Str)),Ap2 acc->Ap2 (chF acc ts)
 |[],_,h=>h
 |t::ts,acc,h=>by
  unfold chF
  split
  ·exact cXi ts acc h
  ·next hn =>
   refine cXi ts _ (be.mpr ⟨h,bY _ _,λa J b B x D j=>hn ?_⟩);rw[aL] at B;subst B;exact dy.mpr ⟨a,J,mts_iff.mpr ⟨x,D,j⟩⟩
theorem dZ2(ts:List (List Str)):Ap2 (chs ts):=cXi ts [] .nil
theorem dJb{l:List (List Str)}(h:Ap2 l)(hs:∀t∈l,t.Nodup):l.flatten.Nodup:=by
 induction l with
 |nil=>exact fk
 |cons t l D =>
  have h':=a8.mp h;rw[List.flatten_cons,dI];refine⟨hs t au,D h'.2 λu B=>hs u (ay _ B),λx L y J e=>?_⟩;obtain⟨u,B,j⟩:=gz.mp J;exact h'.1 u B x L (e▸j)
theorem dQd{ts:List (List Str)}(he:∀t∈ts,Srt t):(chs ts).flatten.length<=(nms ts).length:=by
 have nd:=dJb (dZ2 ts) λt B=>(he t ((aQx ts).subset B)).nodup;refine nd.length_le_of_subset λx D=>?_;obtain⟨t,B,j⟩:=gz.mp D;exact mem_nms.mpr ⟨t,(aQx ts).subset B,j⟩
theorem bZ4(bt:Nat->Nat->Bool):∀n,cW bt n<=n
 |0=>Nat.le_refl 0
 |n+1=>by
  have:=bZ4 bt n
  unfold cW
  split <;> omega
theorem bXt{ts:List (List Str)}{ns:List Str}(h:ns≠[]):mst ts ns∈ns:=by
 have hl:0<ns.length:=cV.mpr h
 have:=bZ4 (gB λi=>(hmh ts (ns.getD i ⟨#[]⟩):Int)) (ns.length-1)
 unfold mst;rw[am,ag (by omega)]
 exact cS _
theorem bXu{m:Nat}{ts:List (List Str)}(h:goW m ts=true):nms (chs ts)≠[]:=by
 unfold goW at h;rw[bL] at h;obtain⟨t,j,hne⟩:=dy.mp h.2;cases t with
 |nil=>cases hne
 |cons x t =>
  intro e
  have:x∈nms (chs ts):=mem_nms.mpr ⟨_,j,au⟩
  rw[e] at this;cases this
theorem cXj{m:Nat}{ts:List (List Str)}(h:goW m ts=true):nmW ts∈nms ts:=by
 obtain⟨t,B,j⟩:=mem_nms.mp (bXt (ts:=ts) (bXu h));exact mem_nms.mpr ⟨t,(aQx ts).subset B,j⟩
structure Wc(k:Nat)(ts:List (List Str)):Prop where
 srt:SrtT ts
 each:∀t∈ts,Srt t/\t.length<=k
 len:ts.length<=130
 nms:(nms ts).length<=60
theorem aJ4{t:List Str}(h:Srt t)(r:List Str):Srt (wo t r):=h.filter _
theorem dJc{ts:List (List Str)}{n:Str}(nd:ts.Nodup)(hs:∀t∈ts,Srt t):((ts.filter λt=>has t [n]).map λt=>wo t [n]).Nodup:=by
 unfold fK;rw[bO];refine bK ?_ (nd.filter _);intro a b L D j e;obtain⟨L,J⟩:=bM.mp L;obtain⟨D,B⟩:=bM.mp D;refine j ((hs a L).ext (hs b D) λy=>?_)
 by_cases hn:y∈[n]
 ·exact⟨λ_=>has_iff.mp B y hn,λ_=>has_iff.mp J y hn⟩
 ·have:=mem_wo (one:=a) (row:=[n]) (x:=y)
  rw[e,mem_wo] at this;exact⟨λh=>(this.mpr ⟨h,hn⟩).1,λh=>(this.mp ⟨h,hn⟩).1⟩
theorem mem_lnk{ts:List (List Str)}{r u:List Str}:u∈lnk ts r↔∃t∈ts,has t r=true/\wo t r=u:=by
 unfold lnk;rw[mem_srT,aP];exact⟨λ⟨t,h,e⟩=>⟨t,(bM.mp h).1,(bM.mp h).2,e⟩,λ⟨t,h1,h2,e⟩=>⟨t,bM.mpr ⟨h1,h2⟩,e⟩⟩
theorem has1{t:List Str}{n:Str}:has t [n]=true↔n∈t:=by rw[has_iff];simp
theorem eJ9{t:List Str}{n:Str}(h:n∈t)(nd:t.Nodup):(wo t [n]).length+1=t.length:=by
 have e:wo t [n]=t.erase n:=by
  rw[nd.erase_eq_filter];unfold wo;refine f8 λx _=>?_
  by_cases j:x=n
  ·subst j;simp
  ·simp[j]
 rw[e,List.length_erase_of_mem h]
 have:=List.length_pos_of_mem h
 omega
theorem Wc.link{k:Nat}{ts:List (List Str)}(h:Wc (k+1) ts)(n:Str):Wc k (lnk ts [n]) where
 srt:=aZp (dJc h.srt.nodup λt j=>(h.each t j).1)
 each:=λu D=>by
  obtain⟨t,j,hn,rfl⟩:=mem_lnk.mp D;refine⟨aJ4 (h.each t j).1 _,?_⟩
  have:=eJ9 (has1.mp hn) (h.each t j).1.nodup
  have:=(h.each t j).2
  omega
 len:=by
  unfold lnk;rw[(aZn _).length_eq,ak];exact Nat.le_trans (dr _ _) h.len
 nms:=Nat.le_trans ((aXy _).nodup.length_le_of_subset λx J=>by
  obtain⟨u,D,B⟩:=mem_nms.mp J;obtain⟨t,j,hn,rfl⟩:=mem_lnk.mp D;exact mem_nms.mpr ⟨t,j,(mem_wo.mp B).1⟩) h.nms
theorem bXv{m:Nat}{ts:List (List Str)}(h:Wc 0 ts):goW m ts=false:=by
 unfold goW;rw[Bool.and_eq_false_iff];refine .inr (List.any_eq_false.mpr λt j=>?_)
 have:=(h.each t ((aQx ts).subset j)).2
 rw[fO.mp (show t.length=0 by omega)];simp
theorem bX2{m:Nat}:∀(k f:Nat) {ts:List (List Str)},Wc k ts->k<=f->wayS m f ts=wayS m k ts
 |0,0,_,_,_=>rfl
 |0,f+1,ts,h,_=>by
  show(if goW m ts=true then _ else _)=([],ts)
  rw[bXv h];rfl
 |k+1,f+1,ts,h,j=>by
  show(if goW m ts=true then _ else _)=(if goW m ts=true then _ else _)
  rw[bX2 k f (h.link (nmW ts)) (by omega)]
theorem aQy{m f:Nat}{ts:List (List Str)}(h:goW m ts=false):wayS m f ts=([],ts):=by
 cases f with
 |zero=>rfl
 |succ f=>show(if goW m ts=true then _ else _)=_;rw[h];rfl
theorem aX2{m f:Nat}{ts:List (List Str)}(h:goW m ts=true):wayS m (f+1) ts=(((chs ts).length,nmW ts,ts.length)::(wayS m f (lnk ts [nmW ts])).1,(wayS m f (lnk ts [nmW ts])).2):=by
 show(if goW m ts=true then _ else _)=_
 rw[h];rfl
theorem dJd{α:Type}{i:Nat}{te:ED}{Γ0:Gm}{S:Sto}{G:Sto->Prop}{Q:List D->Sto->Prop}{enc:α->D}{f:α->D}{xs:List α}{acc:List D}(hG:G S)(h:∀x∈xs,∀Q:DK,Q (f x) S->te (Γ0.set i (some (enc x))) S Q)(hn:acc.length+xs.length<=sizeLine)
  (q:Q (acc++xs.map f) S):aZ7 (aZg i) dYes (aJ9 te) G Γ0 (xs.map enc) acc S Q:=by
 induction xs generalizing acc with
 |nil=>exact⟨hG,by simpa using q⟩
 |cons x xs B =>
  refine⟨hG,?_⟩;show aJ9 te (Γ0.set i (some (enc x))) S acc (λj L=>aZ7 (aZg i) dYes (aJ9 te) G Γ0 (xs.map enc) j L Q);rw[cT] at hn;refine h x au _ ⟨by omega,B (λy J=>h y (ay _ J)) (by simp;omega) (by simpa using q)⟩
theorem cXk{S:Sto}{b:Bool}{k:Bool->Prop}(h:k b):truD S (.bl b) k:=h
theorem dJe{b:Bool}{A B:Prop}(h:b=true->A)(h':b=false->B):if b=true then A else B:=by
 cases b with
 |true=>rw[if_pos rfl];exact h rfl
 |false=>rw[if_neg (by simp)];exact h' rfl
theorem nilE(l:List D):okE 9 (.lst l) (.lst [])=true:=by
 show(l.zip []).all _=true;rw[dz];rfl
theorem nilB(l:List D):decide (D.lst l=D.lst [])=l.isEmpty:=by
 cases l with
 |nil=>rfl
 |cons a b=>exact decide_eq_false λh=>by injection h with h;cases h
end L2
namespace Toy
open PySem L2
abbrev s_chosen_of:Stmt:=top 9
theorem sc_chosen_of:FnScope ["sets", "chosen", "one"] ["sets"] (aQ3 s_chosen_of):=fsc
def aJ5:SpD:=λds S Q=>∃(ts:List (List Str)),ds=[.tup (ts.map tupS)]/\ts.length<=1000/\(∀t∈ts,t.length<=9999)/\Q (.tup ((chs ts).map tupS)) S
section
variable{P:aE}{w:aQ}{K:ar}{mg:Str->Option ad}{base:aX}{pt cc:Addr}
theorem bX3(T:Tx K mg "chosen_of" s_chosen_of)(B:Bs mg)(d_meets:Df P w K mg base 1 "meets" ["one", "row"] (spU K bJl)):Df P w K mg base 2 "chosen_of" ["sets"] (spU K aJ5):=by
 refine aZu T sc_chosen_of (λF=>F.binds λ_ _ _ _ _ _=>us1 λ_=>rfl) ?_ λf cdv A outer s H E hr=>⟨_,(aQ2 (aQb (i:=1) sc_chosen_of.nd rfl (a4 rfl) (aZt (b:=true) aQ1))
  (aQ2 (bQe d9 rfl (aZ0 (dv 0)) (aQw (i:=2) sc_chosen_of.nd rfl (gy rfl)) (aQ4 (aZz (bJa (bQc (eXb rfl B.any (aQ0 (aQp (N':=["other", "one"]) (oc:=none) (b:=false) [0] [] rfl sc_chosen_of.nd (λ_ _ _=>aQa ..) (.own (.cap (i:=2) rfl (by decide +kernel) .nil)) (aQh rfl) (aZ0 (dv 1)) (cg_name (i:=0)) (λ_ _ _ _ _=>aQe (i:=0) (nd_ ["other", "one"]) rfl (a4 rfl) (.inr rfl)) (λ_ _ _ _ _=>aQo) aQj (λ_ _ _ _ _ _=>aQi rfl (by exact PD.o (aQ8 d_meets hr rfl (aQ0 (dv 1) (aQ0 (dv 0) aQ1)))))) aQ1)))) (aQ4 (aXu (aX7 (dv 1) (aQ0 (dv 2) aQ1)))) aQt)))
  (aQ4 (aQl (aQm rfl B.tuple (aQ0 (dv 1) aQ1)))))),?_⟩
 ·rintro ds S Q ⟨ts,rfl,_⟩;rfl
 ·rintro ds S Q ⟨ts,rfl,hl,he,q⟩;refine⟨aQ5 (by decide),λcp L=>⟨_,rfl,?_⟩⟩
  refine aXw (λi Γ S'=>∃(Y:Option D) (acc:List (List Str)),Γ=[some (.tup (ts.map tupS)),some (.ref cp),Y]/\S' cp=some (.lst (acc.map tupS))/\chF acc (ts.drop i)=chs ts/\acc.length<=i/\(∀t∈acc,t∈ts)/\∀b o,S b=some o->S' b=some o) ⟨none,[],rfl,aQ7,rfl,Nat.le_refl _,λt h=>(nomatch h),λb o e=>by rw[aQg (by rintro rfl;rw[L] at e;cases e)];exact e⟩ ?_ ?_
  ·rintro i x Γ S' N Z ⟨Y,acc,rfl,J,j,ha,hm,off⟩ hN;rw[aK,bB] at Z;obtain⟨t,O,rfl⟩:=Z;have hi:=(aD.mp O).1;rw[cv hi,(aD.mp O).2] at j;unfold chF at j;have hte:=he t (ao O);refine⟨trivial,acc.map tupS,J,dJd (f:=λo=>D.bl (mts t o)) J (λo ho Q q=>⟨Str,inferInstance,strE,t,o,tupS t,tupS o,rfl,by decide,.inl rfl,.inl rfl,he o (hm o ho),q⟩) (aQ5 (by show 0+acc.length<=_;omega)) ⟨acc.map λo=>mts t o,?_,cXk ?_⟩⟩
   ·rw[a9];show lsIs S' (.lst _) _;rw[a7];rfl
   ·have ea:(acc.map λo=>mts t o).any id=acc.any λo=>mts t o:=by rw[f6];rfl
    dsimp only;rw[ea];cases e:acc.any λo=>mts t o with
    |true =>
     rw[e,if_pos rfl] at j;exact ite2 (λh=>nomatch h) λ_=>hN _ _ ⟨_,acc,rfl,J,j,by omega,hm,off⟩
    |false =>
     rw[e,if_neg (by simp)] at j
     refine ite2 (λ_=>?_) λh=>absurd rfl h;refine⟨⟨_,J⟩,_,J,by rw[ak,bn];omega,hN _ _ ⟨_,acc++[t],rfl,by rw[aQ7,b9];rfl,j,by rw[aG];show acc.length+1<=_;omega,λu hu=>?_,λb o e=>?_⟩⟩
     ·rcases aN.mp hu with h|h
      ·exact hm u h
      ·rw[aL.mp h];exact ao O
     ·have e':=off b o e;rw[aQg (by rintro rfl;rw[L] at e;cases e)];exact e'
  ·rintro Γ S' ⟨Y,acc,rfl,J,j,ha,hm,off⟩;rw[ak,eE] at j;refine⟨trivial,acc.map tupS,J,?_⟩;have j:acc=chs ts:=j;rw[j];exact aZd off q
end
abbrev s_how_many_have:Stmt:=top 11
theorem sc_how_many_have:FnScope ["sets", "name"] ["sets", "name"] (aQ3 s_how_many_have):=fsc
def aZs:SpD:=λds S Q=>∃(ts:List (List Str)) (n:Str),ds=[.tup (ts.map tupS),.str n]/\ts.length<=1000/\Q (.int (hmh ts n:Nat)) S
section
variable{P:aE}{w:aQ}{K:ar}{mg:Str->Option ad}{base:aX}{pt cc:Addr}
theorem aJa(T:Tx K mg "how_many_have" s_how_many_have)(B:Bs mg):Df P w K mg base 1 "how_many_have" ["sets", "name"] (spU K aZs):=by
 refine aZu T sc_how_many_have (λF=>F.binds λ_ _ _ _ _ _=>us2 λ_ _=>rfl) ?_ λf J A outer s H E D=>⟨_,(aQ4 (aQl (aXi rfl B.len (aQ0 (aQp (N':=["one", "name"]) (oc:=none) (b:=false) [0] [] rfl sc_how_many_have.nd (λ_ _ _=>aQa ..) (.own (.cap (i:=1) rfl (by decide +kernel) .nil)) (aQh rfl) (aZ0 (dv 0)) (cg_name (i:=0)) (λ_ _ _ _ _=>aQe (i:=0) (nd_ ["one", "name"]) rfl (a4 rfl) (.inr rfl)) (λ_ _ _ _ _=>aX1 (by exact(fQc D (dv 1) (dv 0)))) aQj (λ_ _ _ _ _ _=>aQi rfl (by exact PD.o (dv 0)))) aQ1)))),?_⟩
 ·rintro ds S Q ⟨ts,n,rfl,_⟩;rfl
 ·rintro ds S Q ⟨ts,n,rfl,hl,q⟩;refine⟨_,rfl,aZe (p:=λt=>decide (n∈t)) (f:=tupS) (λt j Q q=>in_t (E:=strE) (by decide) rfl q) (λt j _ Q q=>q) (aQ5 (by show 0+ts.length<=_;omega)) ⟨_,rfl,?_⟩⟩
  rw[a9,ak];exact aQr q
end
end Toy
namespace L2
open PySem PySem.Spec PyProof.Rows
theorem cXl{P:aE}{w:aQ}{K:ar}{mg mb:Str->Option ad}{k:Nat}{fa a c pt:Addr}{fd:c6}{x:Str}{sp:Sp}{s₁:ah}{vs:List ad}{ns:List Int}
  (KX:K.In s₁.heap) (hns:s₁.heap.Ns aS mg) (hb:s₁.heap.Ns gZ mb) (hbb:∀x:Str,x ≠ "__name__"->mb x=cf x) (hlim:s₁.heap.NoLimit) (hg:s₁.gens=#[])
  (ha:s₁.heap.get? a=some {cls:=.type "list",data:=.seq vs.toArray}) (hi:gC vs ns) (hl:ns.length<=sizeLine) (hr:Room k callerA)
  (T:TabF s₁.heap mg c pt) (hpt:s₁.heap.get? pt=some (f7 #[])) (noP:K.lookup pt=none)
  (F:∀base:aX,K.In base->base.Ns aS mg->TabF base mg c pt->FnOk P w K mg base CX0 k fa fd [x] sp) (hbind:∀(s:ah) (u:ad),BindsTo s fd ⟨[u],[]⟩ [(x,u)])
  (hsp:∀H:Hp,H pt=some (.tbl #[])->SqL K H a (ns.map V.int)->sp [.ref a] H (λv _=>v=.bl true) λ_ _ _=>False) :
  eN (aB P w) callerA (.call (.ref fa) ⟨[.ref a],[]⟩) (λr s'=>r=.ok (.ret (.bool true))/\OldK s₁.heap s'.heap/\s'.os=s₁.os/\ir s'.gens) s₁:=by
 have rv:=aJl hi;have N:=hi.length;have O:a≠pt:=λz=>by rw[z,hpt] at ha;cases ha
 have core:∀H:Hp,H pt=some (.tbl #[])->(∀b,b≠pt->H b=none\/∃o xs,H b=some (.frz o (.lst xs)))->SqL K H a (ns.map V.int)->HOk P w H s₁.heap->(∀b,H b≠none->b=a\/b=pt)->(H a≠none->K.lookup a=none) ->
   eN (aB P w) callerA (.call (.ref fa) ⟨[.ref a],[]⟩) (λr s'=>r=.ok (.ret (.bool true))/\OldK s₁.heap s'.heap/\s'.os=s₁.os/\ir s'.gens) s₁:=by
  intro H hP hO hS hok hA hK;have j:∀{b:Addr}{o:Obj},s₁.heap.get? b=some o->H b=none->(hidT s₁.heap H).get? b=some o:=λe n=>cXy e n;have free:∀{b:Addr}{o:Obj},s₁.heap.get? b=some o->(∀xs n,o.data≠.seq xs n)->o≠f7 #[]->H b=none:=λ{b o} e n1 n2=>by
   cases q:H b with
   |none=>rfl
   |some u =>
    rcases hA b (by rw[q];simp) with L|L
    ·subst L;rw[ha] at e;cases e;exact absurd rfl (n1 _ _)
    ·subst L;rw[hpt] at e;cases e;exact absurd rfl n2
  have noA:∀{b:Addr}{o:Obj}{es:Array DictEntry}{Z:Nat},s₁.heap.get? b=some o->o.data=.dict es Z->H b=none:=λ{b o es Z} e d =>
   free e (λxs n z=>by rw[d] at z;cases z) λz=>by rw[z] at d;cases d
  have B:∀ {b:Addr} {m:Str->Option ad},s₁.heap.Ns b m->(hidT s₁.heap H).Ns b m:=λ{b m} ⟨o,es,Z,e,d,r⟩=>⟨o,es,Z,j e (noA e d),d,r⟩;have Y:K.In (hidT s₁.heap H):=λb o e=>j (KX b o e) (by
   cases q:H b with
   |none=>rfl
   |some u =>
    rcases hA b (by rw[q];simp) with L|L
    ·subst L;rw[hK (by rw[q];simp)] at e;cases e
    ·subst L;rw[noP] at e;cases e)
  have hM:Mod K mg (hidT s₁.heap H):=⟨Y,B hns,⟨mb,B hb,hbb⟩,let ⟨mc,h1,h2⟩:=hlim;⟨mc,B h1,h2⟩⟩
  have hT:TabF (hidT s₁.heap H) mg c pt:=by
   refine⟨?_,?_⟩
   ·obtain⟨o,us,file,tf,flags,tg,inF,text,tt,e,cl,d,r⟩:=T.hd;exact⟨o,us,file,tf,flags,tg,inF,text,tt,j e (free e (λxs n z=>by rw[d] at z;cases z) λz=>by rw[z] at cl;cases cl),cl,d,r⟩
   ·obtain⟨bm,ob,b1,b2,b3,b4,b5,b6⟩:=T.bm;exact⟨bm,ob,b1,b2,j b3 (free b3 (λxs n z=>by rw[b6] at z;cases z) λz=>by rw[z] at b6;cases b6),b4,b5,b6⟩
  have e0:Env0 P w K mg (hidT s₁.heap H) callerA [] s₁ H:=⟨rfl,rfl,hM,λb o e=>dZ8 e,Nat.le_of_eq (cQh _ _),trivial,λb hb=>absurd (show b∈([]:List Addr) from hb) (by simp),hok,.of_eq hg⟩
  refine codeAny_mono ((F _ Y (B hns) hT).run callerA [] s₁ H ⟨[.ref a],[]⟩ [.ref a] [.ref a] _ _ hr e0 (hbind s₁ (.ref a)) (.cons rfl .nil) (hsp H hP hS)) λr s' h=>?_;cases r with
  |error e=>exact db h
  |ok fl =>
   cases fl with
   |next=>exact db h
   |brk=>exact db h
   |cont=>exact db h
   |ret u =>
    obtain⟨v,H',os,bare,un,J,r',q⟩:=h;have q':v=.bl true:=q;subst q';obtain rfl:u=gp true:=r';have keep:∀b o,b≠pt->s₁.heap.get? b=some o->s'.heap.get? b=some o:=λb o nb e=>by
     cases q:H b with
     |none=>exact un.keep b o e q (by intro z;exact absurd (show b∈([]:List Addr) from z) (by simp)) (by simp)
     |some u =>
      rcases hO b nb with z|⟨ob,xs,z⟩
      ·rw[q] at z;cases z
      ·have z2:=un.frzs b ob _ z;obtain⟨e1,_⟩:=hok b _ z;obtain⟨e2,_⟩:=J b _ z2;rw[e] at e1;cases e1;exact e2
    obtain⟨more,em⟩:=un.tbls pt #[] hP;have gm:s'.heap.get? pt=some (f7 (#[]++more)):=J pt _ em;refine⟨rfl,⟨λb o e=>?_,λb o e=>?_⟩,os,bare⟩
    ·by_cases z:b=pt
     ·subst z;rw[hpt] at e;cases e;exact .inr (.inl ⟨(T.hd.tab hpt).isCodeTable,rfl,#[],more,rfl,gm⟩)
     ·exact .inl (keep b o z e)
    ·by_cases z:b=pt
     ·subst z;exact⟨_,gm⟩
     ·exact⟨o,keep b o z e⟩
 cases hk:K.lookup a with
 |some o =>
  have e:=KX a o hk;rw[ha] at e;cases e;refine core (λb=>if b=pt then some (.tbl #[]) else none) (if_pos rfl) (λb hb=>.inl (if_neg hb)) (.inr ⟨_,vs.toArray,_,hk,rfl,rfl,rfl,by rw[av,N];exact hl,by simpa using rv⟩) (λb u z=>?_) (λb z=>?_) λz=>absurd (if_neg O) z
  ·by_cases hb:b=pt
   ·have z':=(if_pos hb).symm.trans z;cases z';subst hb;exact hpt
   ·have z':=(if_neg hb).symm.trans z;cases z'
  ·by_cases hb:b=pt
   ·exact .inr hb
   ·exact absurd (if_neg hb) z
 |none =>
  refine core (λb=>if b=pt then some (.tbl #[]) else if b=a then some (.frz {cls:=.type "list",data:=.seq vs.toArray} (.lst (ns.map V.int))) else none) (if_pos rfl) (λb D=>?_) (.inl (.inr ⟨{cls:=.type "list",data:=.seq vs.toArray},(if_neg O).trans (if_pos rfl)⟩)) (λb u z=>?_) (λb z=>?_) λ_=>hk
  ·by_cases hb:b=a
   ·exact .inr ⟨_,_,(if_neg D).trans (if_pos hb)⟩
   ·exact .inl ((if_neg D).trans (if_neg hb))
  ·by_cases D:b=pt
   ·have z':=(if_pos D).symm.trans z;cases z';subst D;exact hpt
   ·have z:=(if_neg D).symm.trans z
    by_cases hb:b=a
    ·have z':=(if_pos hb).symm.trans z;cases z';subst hb;exact⟨ha,by rw[ak];exact hl,vs,_,rv,ha⟩
    ·have z':=(if_neg hb).symm.trans z;cases z'
  ·by_cases D:b=pt
   ·exact .inr D
   ·by_cases hb:b=a
    ·exact .inl hb
    ·exact absurd ((if_neg D).trans (if_neg hb)) z
def bJn(pt:Addr)(lp:Pos)(qual:Str)(n:Nat):SpD:=λds S Q=>∃ns:List Int,ds=[.lst (ns.map D.int)]/\ns.length<=n/\S pt=some (.tb lp qual)/\(∀a,a≠pt->S a=none)/\∀S',Q (.bl true) S'
theorem dJf{K:Fg}{n:Nat}{H:Hp}{a pt:Addr}{lp:Pos}{qual:Str}{ns:List Int}(hl:ns.length<=n)(hP:H pt=some (.tbl #[]))(hS:SqL K H a (ns.map V.int)):spU K (bJn pt lp qual n) [.ref a] H (λv _=>v=.bl true) λ_ _ _=>False:=by
 have B:a≠pt\/SqL K (λ_=>none) a (ns.map V.int):=by
  rcases hS with r|z
  ·refine .inl λz=>?_;rcases r with r|⟨o,r⟩ <;> rw[z,hP] at r <;> cases r
  ·exact .inr (.inr z)
 refine⟨λ_=>False,λb=>if b=pt then some (.tb lp qual) else none,[.lst (ns.map D.int)],λd _=>d=.bl true,⟨λb o e=>?_,λ_ (h:False)=>h.elim⟩,RepL.cons ?_ RepL.nil,⟨ns,rfl,hl,if_pos rfl,λb j=>if_neg j,λ_=>rfl⟩,λv d H' S' _ _ h e=>by subst e;exact rbl h⟩
 ·by_cases j:b=pt
  ·rw[if_pos j] at e;cases e;subst j;exact⟨#[],hP,trivial,.inl rfl⟩
  ·rw[if_neg j] at e;cases e
 ·unfold RepV;refine⟨a,_,rfl,?_,eXp⟩;rcases B with B|z
  ·rcases hS with r|z
   ·exact .inl ⟨λz=>z.elim (λw=>w (if_neg B)) id,r⟩
   ·exact .inr (.inr z)
  ·exact .inr z
def cXm(K:ar)(x:Str)(c:Addr):Prop:=∃f oc od fd sl,bu K aS x=some (some (.ref f))/\K.lookup f=some ⟨oc,od,.func fd,sl⟩/\fd.code=.ref c
theorem codeIn_mk{K:ar}{x:Str}{c f:Addr}{oc:ad}{od:Option Addr}{fd:c6}{sl:Array (Option ad)}(a:bu K aS x=some (some (.ref f)))(l:K.lookup f=some ⟨oc,od,.func fd,sl⟩)(e:fd.code=.ref c):cXm K x c:=⟨f,oc,od,fd,sl,a,l,e⟩
theorem cXn{K:ar}{h:aX}{mg:Str->Option ad}{x:Str}{c:Addr}(X:K.In h)(G:h.Ns aS mg)(ht:cXm K x c):bX1 K mg x c:=by
 obtain⟨D,oc,B,j,sl,a,l,e⟩:=ht;intro f o fd m lk hd;have e1:=jw X G a;rw[m] at e1;cases e1;rw[l] at lk;cases lk;cases hd;exact e
def eJa(st:Stmt):Pos:=match aZ5 st with
 |[.Return (some (.Call _ _ (⟨_,.Lambda _ _ _ p,_⟩::_) _)) _]=>p
 |_=>⟨0,0,0,0⟩
abbrev lamQual(x:Str):Str:=x ++ ".<locals>." ++ "<lambda>"
theorem walkT{l:PySem.W.OpenLaw}{q:aE}{loose:List Str}{XP:(Str->Option ad)->aX->Prop}{YP:aQ->aX->Prop}{d:DefRec}{K:Params->ar}{lp:Pos}{qual x:Str}{pt:Addr}(hn:l.most=some 63)(hdf:d.params.defaults=[])
  (hY:∀(w:aQ) (h:aX),YP w h->(K w.params).In h/\h.get? pt=some (f7 #[]))
  (R:∃ c:Addr,(∀ p,cXm (K p) x c)/\(∀ p,PySem.W.codeHdIn (K p) c pt=true)/\(∀ p,(K p).lookup pt=none) /\
   ∀(w:aQ) (mg:Str->Option ad) (fa:Addr) (h:aX),(K w.params).In h->h.Ns aS mg->mg d.name=some (.ref fa)->bX1 (K w.params) mg x c ->
   ∃fd:c6,(∀(s:ah) (u:ad),BindsTo s fd ⟨[u],[]⟩ [("script",u)])/\∀base:aX,(K w.params).In base->base.Ns aS mg->TabF base mg c pt->FnOk l.prog w (K w.params) mg base CX0 50 fa fd ["script"] (spU (K w.params) (bJn pt lp qual 63))) :
  PySem.W.WalkO q loose XP YP l.row.toRowW d [] (λf vs=>PySem.call f vs):=by
 obtain⟨c,N,hh,D,F⟩:=R;refine Att.attach_call hn hdf λw s₀ L mg mb fa o pm cd doc a vs ns G Y ho hd hcd J j hints hlen Z=>?_;obtain⟨B,O⟩:=hY w _ Y;obtain⟨fd,hb,hF⟩:=F w mg fa _ B G.T.g J (cXn B G.T.g (N _));exact cXl B G.T.g G.T.b G.T.builtins G.T.nolimit Z j hints (Nat.le_trans hlen (by decide)) ⟨rfl,by decide,by decide⟩ ⟨PySem.W.codeHd_of_K B (hh _),G.T.bmain⟩ O (D _) hF hb λH hP hS=>dJf hlen hP hS
end L2
namespace Toy
open PySem L2
abbrev s_most_had:Stmt:=top 10
theorem bXw:FnScope ["sets", "names"] ["sets", "names"] (aQ3 s_most_had):=fsc
abbrev lposM:Pos:=eJa s_most_had
def bQ1(pt:Addr):SpD:=λds S Q=>∃(ts:List (List Str)) (ns:List Str),ds=[.tup (ts.map tupS),tupS ns]/\S pt=some (.tb lposM (lamQual "most_had"))/\ts.length<=1000/\ns≠[]/\Q (.str (mst ts ns)) S
section
variable{P:aE}{w:aQ}{K:ar}{mg:Str->Option ad}{base:aX}{pt cc:Addr}
theorem bXx(T:Tx K mg "most_had" s_most_had)(B:Bs mg)(CD:bX1 K mg "most_had" cc)(TF:TabF base mg cc pt)(d_how_many_have:Df P w K mg base 1 "how_many_have" ["sets", "name"] (spU K aZs)):Df P w K mg base 4 "most_had" ["sets", "names"] (spU K (bQ1 pt)):=by
 refine eJ7 T CD bXw (λF=>F.binds λ_ _ _ _ _ _=>us2 λ_ _=>rfl) ?_ λf A outer s H E L=>⟨_,(aQ4 (aQl (eJ8 (z:="sets") L rfl B.max TF (dv 1) ⟨rfl,rfl,rfl,rfl,by decide,(show("name":Str)∉[("sets":Str), "names"] from by decide),rfl,rfl⟩ (λ_ _ _ _ _=>aQ8 d_how_many_have (L.in1.deeper _) rfl (aQ0 (dv 1) (aQ0 (dv 0) aQ1)))))),?_⟩
 ·rintro ds S Q ⟨ts,ns,rfl,_⟩;rfl
 ·rintro ds S Q ⟨ts,ns,rfl,N,hl,hn,q⟩;refine⟨N,ns.map D.str,λi=>(hmh ts (ns.getD i ⟨#[]⟩):Int),rfl,λz=>hn (List.map_eq_nil_iff.mp z),λi x J=>?_,λx J=>?_⟩
  ·rw[aK,bB] at J;obtain⟨n,j,rfl⟩:=J;refine⟨ts,n,rfl,hl,?_,rfl⟩;show D.int (hmh ts n:Nat)=D.int (hmh ts (ns.getD i ⟨#[]⟩):Nat);rw[am,j];rfl
  ·rw[ak,aK,bB] at J;obtain⟨n,j,rfl⟩:=J;have e:mst ts ns=n:=by
    unfold mst;rw[am,j];rfl
   rw[e] at q;exact aQr q
end
abbrev s_names_of:Stmt:=top 5
theorem sc_names_of:FnScope ["sets"] ["sets"] (aQ3 s_names_of):=fsc
def aJ6:SpD:=λds S Q=>∃(ts:List (List Str)),ds=[.tup (ts.map tupS)]/\ts.length<=9999/\ts.flatten.length<=240/\Q (tupS (nms ts)) S
section
variable{P:aE}{w:aQ}{K:ar}{mg:Str->Option ad}{base:aX}{pt cc:Addr}
theorem bXy(T:Tx K mg "names_of" s_names_of)(B:Bs mg):Df P w K mg base 1 "names_of" ["sets"] (spU K aJ6):=by
 refine aZu T sc_names_of (λF=>F.binds λ_ _ _ _ _ _=>us1 λ_=>rfl) ?_ λf cdv A outer s H E hr=>⟨_,(aQ4 (aQl (aQm rfl B.tuple (aQ0 (dJ5 (N':=["one", "name"]) (oc:=none) (b:=false) [0,1] [1] hr rfl B.sorted rfl sc_names_of.nd (λ_ _ _=>cQ7 _ _ _ _ _ _ _ _ _ _ _ _) (.own (.own .nil)) (aQh rfl) (aZ0 (dv 0)) (cg_name (i:=0)) (λ_ _ _ _ _=>aQe (i:=0) (nd_ ["one", "name"]) rfl (a4 rfl) (.inr rfl)) (λ_ _ _ _ _=>aQo) (cXb (cg_name (i:=1)) eJ4) (λ_ _ _ _ _ _=>cJd (m:=λacc=>emitOfS _ acc _) rfl rfl rfl (λ_=>cQ8 _ _ _ _ _ _ _ _ _ _ _ _) (by exact PID.o (aZ0 (dv 0))) (aQe (i:=1) (nd_ ["one", "name"]) rfl (a4 rfl) (.inr rfl)) (aQo) (dQ2 (kn:=cQ9 _ _ _) rfl (lt10 hr) rfl rfl rfl (by exact PD.o (dv 1))) (λ_=>rfl) (λ_=>rfl) (λ_=>rfl) (λ_=>rfl) (λ_=>rfl))) aQ1)))),?_⟩
 ·rintro ds S Q ⟨ts,rfl,_⟩;rfl
 ·rintro ds S Q ⟨ts,rfl,hl,hs,q⟩;have sub:∀i:Nat,((ts.take i).flatten).length<=240:=λi=>by have e:=congrArg (λl:List (List Str)=>l.flatten.length) (bo i ts);simp only[dh,aG] at e;omega
  refine⟨ts.map tupS,rfl,aJh (λi acc S'=>S'=S/\acc=((ts.take i).flatten).map D.str) ⟨rfl,rfl⟩ ?_ ?_⟩
  ·rintro i x acc S' N L ⟨rfl,rfl⟩ hN;rw[aK,bB] at L;obtain⟨t,ht,rfl⟩:=L;refine⟨trivial,t.map D.str,rfl,aJh (λj acc Y=>Y=S'/\acc=((ts.take i).flatten++t.take j).map D.str) ⟨rfl,by rw[jl,br]⟩ ?_ ?_⟩
   ·rintro j y acc Y N2 Z ⟨rfl,rfl⟩ O;rw[aK,bB] at Z;obtain⟨n,hn,rfl⟩:=Z;refine⟨trivial,n,rfl,?_,O _ _ ⟨rfl,?_⟩⟩
    ·have b1:=sub (i+1);rw[cI,ht,dh,aG] at b1;have b2:(t.take j).length<=(Option.some t).toList.flatten.length:=by
      show _<=[t].flatten.length;rw[a6];simp;omega
     rw[ak,aG];omega
    ·rw[cI,hn];simp
   ·rintro acc Y ⟨rfl,rfl⟩;rw[ak,dY];refine⟨trivial,hN _ _ ⟨rfl,?_⟩⟩;rw[cI,ht,dh];simp
  ·rintro acc S' ⟨rfl,rfl⟩;rw[ak,dY];refine⟨trivial,ts.flatten,rfl,λout nd mem=>?_⟩;have J:∀x,x∈out↔∃t∈ts,x∈t:=λx=>(mem x).trans gz;refine⟨?_,λpw=>?_⟩
   ·have:out.length<=ts.flatten.length:=nd.length_le_of_subset λx L=>(mem x).mp L
    omega
   ·rw[cXg pw J];exact⟨_,rfl,aQr q⟩
end
abbrev s_has_all:Stmt:=top 1
theorem sc_has_all:FnScope ["one", "row"] ["one", "row"] (aQ3 s_has_all):=fsc
section
variable{P:aE}{w:aQ}{K:ar}{mg:Str->Option ad}{base:aX}{pt cc:Addr}
theorem cQc(T:Tx K mg "has_all" s_has_all)(B:Bs mg):Df P w K mg base 1 "has_all" ["one", "row"] (spU K bQh):=by
 refine aZu T sc_has_all (λF=>F.binds λ_ _ _ _ _ _=>us2 λ_ _=>rfl) ?_ λf O A outer s H E L=>⟨_,(aQ4 (aQl (fQj rfl B.all (aQ0 (aQp (N':=["name", "one"]) (oc:=none) (b:=false) [0] [] rfl sc_has_all.nd (λ_ _ _=>aQa ..) (.own (.cap (i:=0) rfl (by decide +kernel) .nil)) (aQh rfl) (aZ0 (dv 1)) (cg_name (i:=0)) (λ_ _ _ _ _=>aQe (i:=0) (nd_ ["name", "one"]) rfl (a4 rfl) (.inr rfl)) (λ_ _ _ _ _=>aQo) aQj (λ_ _ _ _ _ _=>aQi rfl (by exact PD.o (e_in L (dv 0) (dv 1))))) aQ1)))),?_⟩
 ·rintro ds S Q ⟨α,dα,E,one,row,j,N,rfl,_⟩;rfl
 ·rintro ds S Q ⟨α,dα,E,one,row,j,N,rfl,Y,h1,h2,hl,q⟩;have go:∀Q':List D->Sto->Prop,Q' (row.map λd=>D.bl (decide (d∈one))) S->aZ7 (aZg 0) dYes (aJ9 (dOp (inD false) (dVar 0) (dVar 1))) (λ_=>True) [none,some j] (row.map E.e) [] S Q':=λQ' J =>
   aQn (f:=λd=>D.bl (decide (d∈one))) (λd hd Q q=>in_e (neg:=false) (E:=E) (by omega) h1.sq q) (aQ5 (by show 0+row.length<=_;omega)) J
  have e:(row.map λd=>decide (d∈one)).all id=has one row:=by unfold has;rw[fY];rfl
  rw[<- e] at q;rcases h2 with rfl|rfl
  ·exact⟨row.map E.e,rfl,go _ ⟨row.map λd=>decide (d∈one),by show _=_;rw[a7];rfl,aQr q⟩⟩
  ·exact⟨row.map E.e,rfl,go _ ⟨row.map λd=>decide (d∈one),by show _=_;rw[a7];rfl,aQr q⟩⟩
end
abbrev s_without_names:Stmt:=top 3
theorem sc_without_names:FnScope ["one", "row"] ["one", "row"] (aQ3 s_without_names):=fsc
section
variable{P:aE}{w:aQ}{K:ar}{mg:Str->Option ad}{base:aX}{pt cc:Addr}
theorem aJb(T:Tx K mg "without_names" s_without_names)(B:Bs mg):Df P w K mg base 1 "without_names" ["one", "row"] (spU K aZr):=by
 refine aZu T sc_without_names (λF=>F.binds λ_ _ _ _ _ _=>us2 λ_ _=>rfl) ?_ λf Y A outer s H E N=>⟨_,(aQ4 (aQl (aQm rfl B.tuple (aQ0 (aQp (N':=["name", "row"]) (oc:=none) (b:=false) [0] [] rfl sc_without_names.nd (λ_ _ _=>aQa ..) (.own (.cap (i:=1) rfl (by decide +kernel) .nil)) (aQh rfl) (aZ0 (dv 0)) (cg_name (i:=0)) (λ_ _ _ _ _=>aQe (i:=0) (nd_ ["name", "row"]) rfl (a4 rfl) (.inr rfl)) (λ_ _ _ _ _=>aX1 (by exact(bZt N (dv 0) (dv 1)))) aQj (λ_ _ _ _ _ _=>aQi rfl (by exact PD.o (dv 0)))) aQ1)))),?_⟩
 ·rintro ds S Q ⟨α,dα,E,one,row,O,j,rfl,_⟩;rfl
 ·rintro ds S Q ⟨α,dα,E,one,row,O,j,rfl,Z,h1,h2,hl,q⟩;have go:∀Q':List D->Sto->Prop,Q' ((wo one row).map E.e) S->aZ7 (aZg 0) (aXh (dOp (inD true) (dVar 0) (dVar 1))) (aJ9 (dVar 0)) (λ_=>True) [none,some j] (one.map E.e) [] S Q':=λQ' J =>
   aZe (p:=λn=>!decide (n∈row)) (f:=E.e) (λx L Q q=>in_t (neg:=true) (E:=E) (by omega) h2.sq q) (λx L _ Q q=>q) (aQ5 (by show 0+one.length<=_;omega)) J
  rcases h1 with rfl|rfl
  ·exact⟨one.map E.e,rfl,go _ ⟨_,rfl,aQr q⟩⟩
  ·exact⟨one.map E.e,rfl,go _ ⟨_,rfl,aQr q⟩⟩
end
abbrev s_link_of:Stmt:=top 6
theorem sc_link_of:FnScope ["sets", "row"] ["sets", "row"] (aQ3 s_link_of):=fsc
def bQ2:SpD:=λds S Q=>∃(ts:List (List Str)) (row:List Str),ds=[.tup (ts.map tupS),tupS row]/\ts.length<=1000/\row.length<=9999/\(∀t∈ts,t.length<=9999)/\Q (.tup ((lnk ts row).map tupS)) S
section
variable{P:aE}{w:aQ}{K:ar}{mg:Str->Option ad}{base:aX}{pt cc:Addr}
theorem cQd(T:Tx K mg "link_of" s_link_of)(B:Bs mg)(d_has_all:Df P w K mg base 1 "has_all" ["one", "row"] (spU K bQh))(d_without_names:Df P w K mg base 1 "without_names" ["one", "row"] (spU K aZr)):Df P w K mg base 2 "link_of" ["sets", "row"] (spU K bQ2):=by
 refine aZu T sc_link_of (λF=>F.binds λ_ _ _ _ _ _=>us2 λ_ _=>rfl) ?_ λf J A outer s H E j=>⟨_,(aQ4 (aQl (aQm rfl B.tuple (aQ0 (aZ3 (b:=false) j rfl B.sorted (aQ0 (aQp (N':=["one", "row"]) (oc:=none) (b:=false) [0] [] rfl sc_link_of.nd (λ_ _ _=>aQa ..) (.own (.cap (i:=1) rfl (by decide +kernel) .nil)) (aQh rfl) (aZ0 (dv 0)) (cg_name (i:=0)) (λ_ _ _ _ _=>aQe (i:=0) (nd_ ["one", "row"]) rfl (a4 rfl) (.inr rfl)) (λ_ _ _ _ _=>aX1 (by exact(bQc (aQ8 d_has_all j rfl (aQ0 (dv 0) (aQ0 (dv 1) aQ1)))))) aQj (λ_ _ _ _ _ _=>aQi rfl (by exact PD.o (aQ8 d_without_names j rfl (aQ0 (dv 0) (aQ0 (dv 1) aQ1)))))) aQ1)) aQ1)))),?_⟩
 ·rintro ds S Q ⟨ts,row,rfl,_⟩;rfl
 ·rintro ds S Q ⟨ts,row,rfl,hl,j,he,q⟩;refine⟨_,rfl,aZe (p:=λt=>has t row) (f:=λt=>tupS (wo t row)) (λt D Q q=>⟨Str,inferInstance,strE,t,row,tupS t,tupS row,rfl,by decide,.inl rfl,.inl rfl,j,q⟩) (λt D _ Q q=>⟨Str,inferInstance,strE,t,row,tupS t,tupS row,rfl,by decide,.inl rfl,.inl rfl,he t D,q⟩) (aQ5 (by show 0+ts.length<=_;omega)) ?_⟩
  exact .inr (.inr ⟨(ts.filter λt=>has t row).map λt=>wo t row,by rw[a9,a7];rfl,_,rfl,aQr q⟩)
end
abbrev s_put_again:Stmt:=top 12
theorem sc_put_again:FnScope ["chosen", "taken"] ["chosen", "taken"] (aQ3 s_put_again):=fsc
def aJ7:SpD:=λds S Q=>∃(cs:List (List Str)) (tk:List Str),ds=[.tup (cs.map tupS),tupS tk]/\cs.length<=1000/\(∀t∈cs,t.length<=1000)/\tk.length<=1000/\Q (.tup ((pag cs tk).map tupS)) S
section
variable{P:aE}{w:aQ}{K:ar}{mg:Str->Option ad}{base:aX}{pt cc:Addr}
theorem bX4(T:Tx K mg "put_again" s_put_again)(B:Bs mg):Df P w K mg base 1 "put_again" ["chosen", "taken"] (spU K aJ7):=by
 refine aZu T sc_put_again (λF=>F.binds λ_ _ _ _ _ _=>us2 λ_ _=>rfl) ?_ λf J A outer s H E D=>⟨_,(aQ4 (aQl (aQm rfl B.tuple (aQ0 (aZ3 (b:=false) D rfl B.sorted (aQ0 (aQp (N':=["one", "taken"]) (oc:=none) (b:=false) [0] [] rfl sc_put_again.nd (λ_ _ _=>aQa ..) (.own (.cap (i:=1) rfl (by decide +kernel) .nil)) (aQh rfl) (aZ0 (dv 0)) (cg_name (i:=0)) (λ_ _ _ _ _=>aQe (i:=0) (nd_ ["one", "taken"]) rfl (a4 rfl) (.inr rfl)) (λ_ _ _ _ _=>aQo) aQj (λ_ _ _ _ _ _=>aQi rfl (by exact PD.o (aQm rfl B.tuple (aQ0 (aZ3 (b:=false) D rfl B.sorted (aQ0 (aZ4 (k:=false) (dv 0) (dv 1)) aQ1)) aQ1))))) aQ1)) aQ1)))),?_⟩
 ·rintro ds S Q ⟨cs,j,rfl,_⟩;rfl
 ·rintro ds S Q ⟨cs,j,rfl,hl,he,L,q⟩;refine⟨_,rfl,aQn (f:=λt=>tupS (srS (t++j))) (λt h Q q=>⟨aQ5 (by rw[ak,ak];have:=he t h;omega),.inl ⟨t++j,by rw[b9];rfl,_,rfl,q⟩⟩) (aQ5 (by show 0+cs.length<=_;omega)) ?_⟩
  refine .inr (.inr ⟨cs.map λt=>srS (t++j),by rw[a9,a7];rfl,_,rfl,aQr q⟩)
end
end Toy
namespace L2
open PySem PySem.Spec PyProof.Rows
section
variable{prog:aE}{w:aQ}{A:aW}{R:Result->ah->Prop}{s0:ah}{a I:Addr}{its:List ad}{bs:List Bool}
theorem cXo(hh:A.in1.handled=none)(haI:a≠I)(hI:s0.heap.objs.size<=I)(hl:bs.length=its.length)
  (tr:∀(i:Nat) v h,its[i]?=some v->Kp s0.heap h->∃b items,v=.ref b/\IsTup h b items/\(items.size:Int)<2^63/\bs[i]?=some (!items.isEmpty))
  (fin:∀h tk,Kp s0.heap h->R (.ok (.ret (.bool (bs.any id)))) {s0 with heap:=h,toks:=tk}) :
  ∀(left i:Nat) (h:aX) (tk:Nat),i+left=its.length->Kp s0.heap h->h.IsTupleIter I a i->h.IsTuple a its.toArray->(bs.take i).any id=false ->
   eN (aB prog w) A (.builtin "any.loop" ⟨[.ref I],[]⟩) R {s0 with heap:=h,toks:=tk}:=by
 have N:∀b o,s0.heap.get? b=some o->b∉[I]:=λb o e z=>absurd (aA e) (by rw[aL.mp z];exact Nat.not_lt.mpr hI)
 have W:=jn (prog:=prog) (w:=w) (A:=A.in1) hh I a haI its.toArray;have e1:its.toArray.size=its.length:=by simp
 rw[e1] at W;intro left
 induction left with
 |zero =>
  intro i h tk hi kp D B hn;have e:i=its.length:=by omega
  subst e;rw[aZ (by omega)] at hn
  refine cQ F.entry_any_loop ?_;rw[bJ F.plain_any_loop _];show aF (aB prog w) A.in1 (eL (.ref I)>>=_) _ _ {s0 with heap:=h,toks:=tk}
  refine aa (W.done _ _ _ ⟨D,B⟩ λh1 j k1=>aa (cx (ae ?_)))
  have:=fin h1 j λb o e=>k1 b o (N b o e) (kp b o e)
  rw[hn] at this;exact this
 |succ left Y =>
  intro i h tk hi kp D B hn;have L:i<its.length:=by omega
  refine cQ F.entry_any_loop ?_;rw[bJ F.plain_any_loop _];show aF (aB prog w) A.in1 (eL (.ref I)>>=_) _ _ {s0 with heap:=h,toks:=tk}
  refine aa (W.item i _ _ _ L ⟨D,B⟩ λv h1 j hv st k1=>?_);have J:Kp s0.heap h1:=λb o e=>k1 b o (N b o e) (kp b o e);obtain⟨b,items,rfl,tb,Z,O⟩:=tr i v h1 (by simpa using hv) J
  refine aa (bb (truthy_tuple tb Z (aa (fm ?_))));cases e:!items.isEmpty with
  |false =>
   rw[if_neg (by simp)]
   refine ae ⟨da F.plain_any_loop _,Y (i+1) h1 _ (by omega) J st.1 st.2 ?_⟩
   rw[cI,O,List.any_append,hn,e];rfl
  |true =>
   rw[if_pos rfl];refine aa (cx (ae ?_))
   have:=fin h1 (j+1+1) J
   rw[show bs.any id=true from dy.mpr ⟨true,ao (by rw[O,e]),rfl⟩] at this
   exact this
end
section
variable{X:Cx}{K:Fg}
theorem cQe(hK:X.K=K:=by rfl)(hc:X.calm=true:=by rfl):CallR X (.builtin "any") (λxs H Q=>∃a us,∃bs:List Bool,xs=[.ref a]/\SqT K H a us/\bs.length=us.length/\(∀(i:Nat) u,us[i]?=some u->∃b ys,u=.ref b/\SqT K H b ys/\bs[i]?=some (!ys.isEmpty))/\Q (.bl (bs.any id)) H):=by
 subst hK;intro pins s σ H xs us Q I r h;obtain⟨a,vs,bs,rfl,Z,hl,Y,q⟩:=h;obtain⟨u,rfl,rx⟩:=aXb r;cases rx;obtain⟨its,B,pl,_⟩:=I.tuple Z;obtain⟨o,ho,_⟩:=id pl;have D:a<s.heap.objs.size:=aA ho;refine call_function_tree F.kind_any F.plain_any F.entry_any (F.args_any1 _) ?_;unfold bU.«any»;refine aa (m:=oneArg "any" _) (ae ?_);refine aa (eR (show s.heap.IsTuple a its.toArray from pl) ?_)
 have J:Kp s.heap (s.heap.push {cls:=.type "tuple_iterator",data:=.fields #[.ref a,.int 0 0]}):=λb o e=>af _ e;refine ae ⟨da F.plain_any_loop _,cXo (s0:=s) (by have:=I.ok.hd hc;simp[this]) (Nat.ne_of_lt D) (Nat.le_refl _) (by rw[hl,B.length]) (λi v h L kp=>?_) (λh tk kp=>⟨.bl _,H,I.kept kp,rfl,q⟩) its.length 0 _ _ (Nat.zero_add _) J ⟨_,aq _ rfl,rfl,rfl⟩ ((show s.heap.IsTuple a its.toArray from pl).at λo e=>J _ o e) rfl⟩
 have hi:i<vs.length:=by rw[B.length];exact(aD.mp L).1
 obtain⟨u,h1,h2⟩:=B.get (ag hi);rw[L] at h1;cases h1;obtain⟨b,ys,e,N,eb⟩:=Y i _ (ag hi);rw[e] at h2;cases h2;obtain⟨ws,j,O,hw⟩:=(I.kept (t':=s.toks) kp).tuple N;have hn:=aJi;refine⟨b,ws.toArray,rfl,O,by simp only[av];have:=j.length;omega,?_⟩
 rw[eb,aXo j]
def dJg:RCD:=λds S Q=>∃xs:List (List D),ds=[.tup (xs.map D.tup)]/\Q (.bl (xs.any λx=>!x.isEmpty)) S
variable{e:Expr}{t:AD}{p pos:Pos}
theorem dJh:aJu K (λxs H Q=>∃a us,∃bs:List Bool,xs=[.ref a]/\SqT K H a us/\bs.length=us.length/\(∀(i:Nat) u,us[i]?=some u->∃b ys,u=.ref b/\SqT K H b ys/\bs[i]?=some (!ys.isEmpty))/\Q (.bl (bs.any id)) H) dJg:=by
 intro F S H ds vs Q QD r l h c;obtain⟨xs,rfl,q⟩:=h;obtain⟨v,rfl,j⟩:=l.one;unfold RepV at j;obtain⟨a,us,rfl,ta,l⟩:=j;have el:us.length=xs.length:=by rw[l.length,ak]
 refine⟨a,us,xs.map λx=>!x.isEmpty,rfl,ta.sq,by rw[ak,el],λi u L=>?_,?_⟩
 ·obtain⟨d,hd,B⟩:=l.get' L;rw[aK,bB] at hd;obtain⟨x,J,rfl⟩:=hd;unfold RepV at B;obtain⟨b,ys,rfl,tb,D⟩:=B;refine⟨b,ys,rfl,tb.sq,?_⟩;rw[aK,J]
  have:=D.length
  cases x <;> cases ys <;> first|rfl|simp at this
 ·rw[f6];exact c.bl r q
theorem eJb(hg:Gl X "any")(hm:X.mg "any"=none)(ha:PAD K X [e] t)(hK:X.K=K:=by rfl)(hc:X.calm=true:=by rfl)(he:az [e] X.env=(false,eval e X.env)::az [] X.env:=by rfl)(hpl:(cq pos (az [] X.env)).any (·.1)=false:=by rfl):PD K X (.Call (.Name "any" p) [e] [] pos) (dCB dJg t):=aXd (cQe hK hc) dJh hg hm dQn ha (by decide) (by decide) he hpl
end
end L2
namespace Toy
open PySem L2
abbrev s_flower_by_way:Stmt:=top 8
theorem sc_flower_by_way:FnScope ["sets", "many", "left", "taken", "trace", "chosen", "name"] ["sets", "many"] (aQ3 s_flower_by_way):=fsc
def bJo(pt:Addr):SpD:=λds S Q=>∃(ts:List (List Str)) (m:Nat),ds=[.tup (ts.map tupS),.int m]/\S pt=some (.tb lposM (lamQual "most_had"))/\Wc 6 ts/\m<=60/\Q (wayD m ts) S
section
variable{P:aE}{w:aQ}{K:ar}{mg:Str->Option ad}{base:aX}{pt cc:Addr}
theorem aJc(T:Tx K mg "flower_by_way" s_flower_by_way)(B:Bs mg)(d_chosen_of:Df P w K mg base 4 "chosen_of" ["sets"] (spU K aJ5))(d_most_had:Df P w K mg base 4 "most_had" ["sets", "names"] (spU K (bQ1 pt)))(d_names_of:Df P w K mg base 4 "names_of" ["sets"] (spU K aJ6))(d_link_of:Df P w K mg base 4 "link_of" ["sets", "row"] (spU K bQ2))(d_put_again:Df P w K mg base 4 "put_again" ["chosen", "taken"] (spU K aJ7)):Df P w K mg base 5 "flower_by_way" ["sets", "many"] (spU K (bJo pt)):=by
 refine aZu T sc_flower_by_way (λF=>F.binds λ_ _ _ _ _ _=>us2 λ_ _=>rfl) ?_ λf cdv A outer s H E O=>⟨_,(aQ2 (aQb (i:=2) sc_flower_by_way.nd rfl (a4 rfl) (dv 0))
  (aQ2 (aQb (i:=3) sc_flower_by_way.nd rfl (a4 rfl) (aZj aQ1))
  (aQ2 (aQb (i:=4) sc_flower_by_way.nd rfl (a4 rfl) (aZt (b:=true) aQ1))
  (aQ2 (aQb (i:=5) sc_flower_by_way.nd rfl (a4 rfl) (aQ8 d_chosen_of O rfl (aQ0 (dv 2) aQ1)))
  (aQ2 (cJs d9 (PWD.pt (cZl (cJo O (aXi rfl B.len (aQ0 (dv 5) aQ1)) (dv 1)) (bXl (bQc (eJb rfl B.any (aQ0 (dv 5) aQ1)))))) (aQ2 (aQb (i:=6) sc_flower_by_way.nd rfl (a4 rfl) (aQ8 d_most_had O rfl (aQ0 (dv 2) (aQ0 (aQ8 d_names_of O rfl (aQ0 (dv 5) aQ1)) aQ1))))
  (aQ2 (aXu (aX7 (dv 4) (aQ0 (aZj (aQ0 (aXi rfl B.len (aQ0 (dv 5) aQ1)) (aQ0 (dv 6) (aQ0 (aXi rfl B.len (aQ0 (dv 2) aQ1)) aQ1)))) aQ1)))
  (aQ2 (aQb (i:=3) sc_flower_by_way.nd rfl (a4 rfl) (aZ4 (k:=false) (dv 3) (aZj (aQ0 (dv 6) aQ1))))
  (aQ2 (aQb (i:=2) sc_flower_by_way.nd rfl (a4 rfl) (aQ8 d_link_of O rfl (aQ0 (dv 2) (aQ0 (aZj (aQ0 (dv 6) aQ1)) aQ1))))
  (aQ4 (aQb (i:=5) sc_flower_by_way.nd rfl (a4 rfl) (aQ8 d_chosen_of O rfl (aQ0 (dv 2) aQ1)))))))))
  (aQ2 (aXu (aX7 (dv 4) (aQ0 (aZj (aQ0 (aXi rfl B.len (aQ0 (dv 5) aQ1)) (aQ0 bQ5 (aQ0 (aXi rfl B.len (aQ0 (dv 2) aQ1)) aQ1)))) aQ1)))
  (aQ2 (aZz (cJo O (aXi rfl B.len (aQ0 (dv 5) aQ1)) (dv 1)) (aQ4 (aQl (aZj (aQ0 bQ5 (aQ0 (aQm rfl B.tuple (aQ0 (dv 4) aQ1)) aQ1))))) aQt)
  (aQ4 (aQl (aZj (aQ0 (aQ8 d_put_again O rfl (aQ0 (e_sl (b:=false) (dv 5) aJv (aXe (dv 1))) (aQ0 (dv 3) aQ1))) (aQ0 (aQm rfl B.tuple (aQ0 (dv 4) aQ1)) aQ1)))))))))))),?_⟩
 ·rintro ds S Q ⟨ts,m,rfl,_⟩;rfl
 ·rintro ds S Q ⟨ts,m,rfl,hP,hW,hm,q⟩;refine⟨aQ5 (by decide),aQ5 (by decide),λlp N=>?_⟩
  have hpl:pt≠lp:=by rintro rfl;rw[N] at hP;cases hP
  have lim:∀{k:Nat}{us:List (List Str)},Wc k us->k<=6->∀t∈us,t.length<=9999:=λh hk t Y=>by have:=(h.each t Y).2;omega
  refine⟨ts,rfl,by have:=hW.len;omega,lim hW (Nat.le_refl _),?_⟩
  refine⟨λf Γ S'=>∃ (us:List (List Str)) (j:List (Nat × Str × Nat)) (x6:Option D),Γ=[some (.tup (ts.map tupS)),some (.int m),some (.tup (us.map tupS)),some (tupS (j.map λs=>s.2.1)),some (.ref lp),some (.tup ((chs us).map tupS)),x6]/\S' lp=some (.lst (j.map stD))/\Wc f us/\f + j.length<=6/\wayS m 6 ts=(j++(wayS m f us).1,(wayS m f us).2)/\∀ b o,S b=some o->S' b=some o,
   ⟨6,ts,[],none,rfl,aQ7,hW,Nat.le_refl _,rfl,λb o e=>by rw[aQg (by rintro rfl;rw[N] at e;cases e)];exact e⟩,?_⟩
  rintro f Γ S' ⟨us,j,x6,rfl,hS,L,hf,hw,off⟩;have cl:(chs us).length<=130:=Nat.le_trans (aQx us).length_le L.len;have tst:∀Q:Bool->Sto->Prop,Q (goW m us) S'->dAnd (aXh (dOp ltD (dCB lenD (bXh (dVar 5) dNil)) (dVar 1))) (dTru (dCB dJg (bXh (dVar 5) dNil))) [some (.tup (ts.map tupS)),some (.int m),some (.tup (us.map tupS)),some (tupS (j.map λs=>s.2.1)),some (.ref lp),some (.tup ((chs us).map tupS)),x6] S' Q:=λQ J=>by
   refine⟨_,rfl,_,rfl,?_⟩;rw[ak];have e1:decide (((chs us).length:Int)<(m:Int))=decide ((chs us).length<m):=decide_eq_decide.mpr (by omega)
   rw[e1];unfold goW at J;cases e:decide ((chs us).length<m) with
   |false =>
    rw[e] at J;exact ite2 (λh=>nomatch h) λ_=>J
   |true =>
    rw[e,iG] at J;refine ite2 (λ_=>⟨(chs us).map λt=>t.map D.str,by rw[a7];rfl,cXk ?_⟩) λh=>absurd rfl h
    have e2:((chs us).map λt=>t.map D.str).any (λx=>!x.isEmpty)=(chs us).any λt=>!t.isEmpty:=by
     rw[f6]
     congr 1
     funext t;cases t <;> rfl
    rw[e2];exact J
  refine tst _ (dJe (λg=>?_) λg=>?_)
  ·have gn:=bXu g;cases f with
   |zero=>rw[bXv L] at g;cases g
   |succ f =>
   have hl:=L.link (nmW us);have hn:=L.nms;refine⟨chs us,rfl,by omega,Nat.le_trans (dQd λt Y=>(L.each t Y).1) (by omega),us,nms (chs us),rfl,off _ _ hP,by have:=L.len;omega,gn,?_⟩
   refine⟨⟨_,hS⟩,_,rfl,_,rfl,aQ5 (by show 3<=9999;decide),_,hS,by rw[ak,bn];omega,?_⟩
   refine⟨aQ5 (by show 1<=9999;decide),aQ5 (by rw[ak,ak];show j.length+1<=9999;omega),?_⟩
   refine⟨aQ5 (by show 1<=9999;decide),us,[nmW us],rfl,by have:=L.len;omega,by show 1<=9999;decide,lim L (by omega),?_⟩
   refine⟨lnk us [nmW us],rfl,by have:=hl.len;omega,lim hl (by omega),?_⟩
   refine⟨f,Nat.lt_succ_self f,lnk us [nmW us],j++[((chs us).length,nmW us,us.length)],some (.str (nmW us)),?_,?_,hl,by rw[aG];show f+(j.length+1)<=6;omega,?_,λb o e=>?_⟩
   ·rw[b9];unfold tupS;rw[b9];rfl
   ·rw[aQ7,b9,ak,ak];rfl
   ·rw[hw,aX2 g,aY];rfl
   ·have e':=off b o e;rw[aQg (by rintro rfl;rw[N] at e;cases e)];exact e'
  ·have e:wayS m 6 ts=(j,us):=by rw[hw,aQy g,br]
   refine⟨⟨_,hS⟩,_,rfl,_,rfl,aQ5 (by show 3<=9999;decide),_,hS,by rw[ak,bn];omega,?_⟩
   have J:Q (.tup [opT (if (chs us).length<m then none else some (pag ((chs us).take m) (j.map λs=>s.2.1))),.tup (j.map stD++[laD us])]) S:=by
    have:=q
    unfold wayD flW trD tkW at this;rw[e] at this;exact this
   rw[ak,ak];have Z:supd S' lp (.lst (j.map stD++[laD us])) lp=some (.lst (j.map stD++[laD us])):=aQ7;have back:∀a o,S a=some o->supd S' lp (.lst (j.map stD++[laD us])) a=some o:=λa o e=>by rw[aQg (by rintro rfl;rw[N] at e;cases e)];exact off a o e
   refine⟨_,rfl,_,rfl,ite2 (λc1=>?_) λc1=>?_⟩
   ·have c2:(chs us).length<m:=by have:=of_decide_eq_true c1;rw[ak] at this;omega
    rw[if_pos c2] at J;refine⟨_,Z,aQ5 (by show 2<=9999;decide),?_⟩
    exact aZd (S':=S) back J
   ·have c2:¬ (chs us).length<m:=λz=>c1 (decide_eq_true (by rw[ak];omega))
    rw[if_neg c2] at J;have hm4:∀t∈(chs us).take m,t.length<=1000:=λt Y=>by have:=(L.each t ((aQx us).subset (cr Y))).2;omega
    refine⟨m,rfl,(chs us).take m,j.map λs:Nat×Str×Nat=>s.2.1,congrArg (λz:List D=>[D.tup z,tupS (j.map λs:Nat×Str×Nat=>s.2.1)]) (dQc (chs us) m),by rw[a6];omega,hm4,by rw[ak];omega,_,Z,aQ5 (by show 2<=9999;decide),aZd (S':=S) back J⟩
end
end Toy
namespace L2
open PySem PySem.Spec PyProof.Rows
section
variable{X:Cx}{pins:List (Addr×Obj)}{σ:St}{H:Hp}{s:ah}{M:Am}
open PySem.W in
open PySem.W in
open PySem.W in
open PySem.W in
open PySem.W in
open PySem.W in
end
section
variable{X:Cx}{K:Fg}{pos:Pos}{k:Nat}
open Classical in
end
def getG{β:Type}(kvs:List (Key×β))(key:Key):Option β:=(kvs.find? λkv=>decide (kv.1=key)).map (·.2)
section
variable{X:Cx}{K:Fg}{k:Nat}{pos:Pos}{o i:Expr}{td ty:ED}
theorem bJp{M:Am}{H:Hp}{key:Key}{d:D}{ks:List (Key×V)}{kvs:List (Key×D)}(l:bG (λ(p:Key×V) (q:Key×D)=>p.1=q.1/\RepV K M H q.2 p.2) ks kvs)(h:getG kvs key=some d):∃v,valV ks key=some v/\RepV K M H d v:=by
 induction l with
 |nil=>cases h
 |@cons a b as bs j _ J =>
  by_cases e:b.1=key
  ·have:getG (b::bs) key=some b.2:=by unfold getG;rw[ci,decide_eq_true e];rfl
   rw[this] at h;injection h with h
   subst h;exact⟨a.2,bQt (j.1.trans e),j.2⟩
  ·have:getG (b::bs) key=getG bs key:=by unfold getG;rw[ci,decide_eq_false e]
   rw[this] at h;obtain⟨v,L,B⟩:=J h;refine⟨v,?_,B⟩;rw[<- L];have N:a.1≠key:=λz=>e (j.1▸z);simp[valV,ci,N]
def dDGet(td ty:ED):ED:=fun Γ S Q=>td Γ S λo S1=>ty Γ S1 λy S2=>match o with
 |.ref a=>∃kvs key d,S2 a=some (.dk kvs)/\dkey y=some key/\getG kvs key=some d/\Q d S2
 |_=>False
theorem dZ3(hr:Room k X.A)(ho:PD K X o td)(hi:PD K X i ty)(hs:NoSl i:=by intro _ _;rfl):PD K X (.Subscript o i pos) (dDGet td ty):=.of (dXr (lt10 hr) ho.o hi.o hs) fun σ H Q L=>L.el λF S Γ QD r g q c =>
 ⟨F,S,Γ,_,r,g,q,λx od H2 S2 D Y v2 Z=>⟨F,S2,Γ,_,Y,g.ext D,Z,λy yd H3 S3 B J N j=>by
  cases od with
  |ref a =>
   obtain⟨kvs,key,d,hS,hk,hg,j⟩:=j;obtain⟨ks,hu,lu⟩:=J.obj a _ hS;obtain⟨v,hv,O⟩:=bJp lu hg;refine⟨a,v,rref (v2.ext B),.inl ⟨ks,key,.inl hu,bQw N hk,hv.symm⟩,c v d H3 S3 (D.trans B) J O j⟩
  |_=>exact j.elim⟩⟩
end
section
variable{X:Cx}{K:Fg}{k:Nat}{pos:Pos}
theorem dQe{M:Am}{H:Hp}{key:Key}{ks:List (Key×V)}{kvs:List (Key×D)}(l:bG (λ(p:Key×V) (q:Key×D)=>p.1=q.1/\RepV K M H q.2 p.2) ks kvs)(h:getG kvs key=none):valV ks key=none:=by
 induction l with
 |nil=>rfl
 |@cons a b as bs j _ B =>
  by_cases e:b.1=key
  ·have:getG (b::bs) key=some b.2:=by unfold getG;rw[ci,decide_eq_true e];rfl
   rw[this] at h;cases h
  ·have e1:getG (b::bs) key=getG bs key:=by unfold getG;rw[ci,decide_eq_false e]
   rw[e1] at h;have J:a.1≠key:=λz=>e (j.1▸z);rw[<- B h];simp[valV,ci,J]
end
end L2
namespace L2
open PySem
def pl(p q:Int×Str):Bool:=if p.1=q.1 then HT.ltS p.2 q.2 else decide (p.1<q.1)
theorem bJq(kf:Nat->Int):∀n j,j<=n->kf j<=kf (cW (gB kf) n)/\(j<cW (gB kf) n->kf j<kf (cW (gB kf) n))
 |0,j,J=>by
  have:j=0:=by omega
  subst this;exact⟨Int.le_refl _,λh=>absurd h (Nat.lt_irrefl _)⟩
 |n+1,j,J=>by
  have D:=bJq kf n;have hl:=bZ4 (gB kf) n;cases e:decide (kf (n+1)>kf (cW (gB kf) n)) with
  |true =>
   have B:cW (gB kf) (n+1)=n+1:=by simp only[cW,gB,e,if_true]
   rw[B];have e:=of_decide_eq_true e
   by_cases h:j=n+1
   ·subst h;exact⟨Int.le_refl _,λh=>absurd h (Nat.lt_irrefl _)⟩
   ·have:=(D j (by omega)).1
    exact⟨by omega,λ_=>by omega⟩
  |false =>
   have B:cW (gB kf) (n+1)=cW (gB kf) n:=by simp only[cW,gB,e,bS,if_false]
   rw[B];have e:=of_decide_eq_false e
   by_cases h:j=n+1
   ·subst h;exact⟨by omega,λh=>by omega⟩
   ·exact D j (by omega)
theorem bJr{ts:List (List Str)}{ns:List Str}(hs:Srt ns){y:Str}(hy:y∈ns):hmh ts y<=hmh ts (mst ts ns)/\(hmh ts y=hmh ts (mst ts ns)->y=mst ts ns\/HT.ltS (mst ts ns) y=true):=by
 obtain⟨j,D,rfl⟩:=cg hy;have J:=bZ4 (gB λi=>(hmh ts (ns.getD i ⟨#[]⟩):Int)) (ns.length-1);have hm:=bJq (λi=>(hmh ts (ns.getD i ⟨#[]⟩):Int)) (ns.length-1) j (by omega)
 have e1:ns.getD j ⟨#[]⟩=ns[j]:=by rw[am,ag D];rfl
 unfold mst;generalize cW (gB λi=>(hmh ts (ns.getD i ⟨#[]⟩):Int)) (ns.length-1)=b at J hm;have B:b<ns.length:=by omega
 have e2:ns.getD b ⟨#[]⟩=ns[b]:=by rw[am,ag B];rfl
 rw[e1,e2] at hm;rw[e2];refine⟨by omega,λe=>?_⟩
 rcases Nat.lt_trichotomy j b with h|h|h
 ·have:=hm.2 h;omega
 ·subst h;exact .inl rfl
 ·exact .inr (cw.mp hs b j B D h)
theorem dZ4{ts:List (List Str)}{ns:List Str}(hs:Srt ns){x:Str}(hx:x∈ns)(h:∀y∈ns,pl (0-(hmh ts y:Int),y) (0-(hmh ts x:Int),x)=false):x=mst ts ns:=by
 have hm:=bXt (ts:=ts) (ns:=ns) (by rintro rfl;cases hx)
 have h1:=bJr (ts:=ts) hs hx;have h2:=h _ hm;unfold pl at h2;dsimp only at h2
 by_cases e:hmh ts x=hmh ts (mst ts ns)
 ·rw[if_pos (by omega)] at h2
  rcases h1.2 e with z|z
  ·exact z
  ·rw[z] at h2;cases h2
 ·rw[if_neg (by omega)] at h2
  have:=of_decide_eq_false h2
  omega
abbrev Kps(S0 S:Sto):Prop:=∀b o,S0 b=some o->S b=some o
theorem Kps.set{S0 S:Sto}(h:Kps S0 S){p:Addr}(hp:S0 p=none)(x:DO):Kps S0 (supd S p x):=λb o e=>by
 rw[aQg (by rintro rfl;rw[hp] at e;cases e)];exact h b o e
def StpD(d:D):Prop:=∃(a:Int) (b:D) (c:Int),d=.tup [.int a,b,.int c]/\(b=.non\/∃s,b=.str s)
theorem StpD.ok{d e:D}(h:StpD d)(h':StpD e):okE 7 d e=true:=by
 obtain⟨a,b,c,rfl,B⟩:=h;obtain⟨N,L,J,rfl,j⟩:=h';rcases B with rfl|⟨s,rfl⟩ <;> rcases j with rfl|⟨s',rfl⟩ <;> rfl
def WayD(d:D):Prop:=∃(o:Option (List (List Str))) (ys:List D),d=.tup [opT o,.tup ys]/\∀y∈ys,StpD y
theorem eJc(o o':Option (List (List Str))):okE 8 (opT o) (opT o')=true:=by
 cases o with
 |none=>cases o' <;> rfl
 |some l =>
  cases o' with
  |none=>rfl
  |some j=>exact flE.ok 8 l j (by decide)
theorem WayD.ok{d e:D}(h:WayD d)(h':WayD e):okE 9 d e=true:=by
 obtain⟨o,ys,rfl,L⟩:=h;obtain⟨o',j,rfl,B⟩:=h';show(okE 8 (opT o) (opT o')&&(okE 8 (.tup ys) (.tup j)&&true))=true;rw[eJc,iG,Bool.and_true];show(ys.zip j).all (λp=>okE 7 p.1 p.2)=true;rw[b8];rintro⟨a,b⟩ J;exact(L a (fG J).1).ok (B b (fG J).2)
theorem bZ5(m:Nat)(ts:List (List Str)):WayD (wayD m ts):=by
 refine⟨_,_,rfl,λd hd=>?_⟩;rcases aN.mp hd with h|h
 ·obtain⟨s,_,rfl⟩:=aP.mp h;exact⟨_,_,_,rfl,.inr ⟨_,rfl⟩⟩
 ·rw[aL.mp h];exact⟨_,_,_,rfl,.inl rfl⟩
open Toy
theorem mem_lnk_row{ts:List (List Str)}{T u:List Str}:u∈lnk ts T↔∃t∈ts,(∀x∈T,x∈t)/\wo t T=u:=by
 rw[mem_lnk];exact⟨λ⟨t,h1,h2,j⟩=>⟨t,h1,has_iff.mp h2,j⟩,λ⟨t,h1,h2,j⟩=>⟨t,h1,has_iff.mpr h2,j⟩⟩
theorem dJi{ts:List (List Str)}{T:List Str}(nd:ts.Nodup)(hs:∀t∈ts,Srt t):((ts.filter λt=>has t T).map λt=>wo t T).Nodup:=by
 unfold fK;rw[bO];refine bK ?_ (nd.filter _);intro a b L D j e;obtain⟨L,J⟩:=bM.mp L;obtain⟨D,B⟩:=bM.mp D;refine j ((hs a L).ext (hs b D) λn=>?_)
 by_cases hn:n∈T
 ·exact⟨λ_=>has_iff.mp B n hn,λ_=>has_iff.mp J n hn⟩
 ·have:=mem_wo (one:=a) (row:=T) (x:=n)
  rw[e,mem_wo] at this;exact⟨λh=>(this.mpr ⟨h,hn⟩).1,λh=>(this.mp ⟨h,hn⟩).1⟩
theorem aQz{ts:List (List Str)}{T:List Str}(nd:ts.Nodup)(hs:∀t∈ts,Srt t):SrtT (lnk ts T):=aZp (dJi nd hs)
theorem bZ6(ts:List (List Str))(T:List Str):(lnk ts T).length=(ts.filter λt=>has t T).length:=by
 unfold lnk;rw[(aZn _).length_eq,ak]
theorem dJj{ts:List (List Str)}(hs:SrtT ts):lnk ts []=ts:=by
 unfold lnk;have e1:(ts.filter λt=>has t [])=ts:=fB.mpr λt _=>rfl;have e2:((ts.filter λt=>has t []).map λt=>wo t [])=ts:=by
  rw[e1];have j:∀t:List Str,wo t []=t:=λt=>fB.mpr λx _=>by simp
  conv=>rhs;rw[<- List.map_id ts]
  exact dP λt _=>j t
 rw[e2,cXf hs]
theorem wo_wo1{t T:List Str}{n:Str}:wo (wo t T) [n]=wo t (T++[n]):=by
 unfold wo;rw[List.filter_filter];refine f8 λx _=>?_
 by_cases h1:x=n <;> by_cases h2:x∈T <;> simp[h1,h2]
theorem dQf{ts:List (List Str)}{T:List Str}{n:Str}(nd:ts.Nodup)(hs:∀t∈ts,Srt t)(hn:n∉T):lnk (lnk ts T) [n]=lnk ts (T++[n]):=by
 have s1:=aQz (T:=T) nd hs;have J:∀u∈lnk ts T,Srt u:=λu O=>by
  obtain⟨t,B,_,rfl⟩:=mem_lnk_row.mp O;exact aJ4 (hs t B) _
 refine(aQz s1.nodup J).ext (aQz nd hs) λu=>?_;rw[mem_lnk_row,mem_lnk_row];constructor
 ·rintro⟨v,N,L,rfl⟩;obtain⟨t,B,D,rfl⟩:=mem_lnk_row.mp N;refine⟨t,B,λx j=>?_,wo_wo1.symm⟩;rcases aN.mp j with h|h
  ·exact D x h
  ·rw[aL.mp h];exact(mem_wo.mp (L n (aL.mpr rfl))).1
 ·rintro⟨t,B,D,rfl⟩;refine⟨wo t T,mem_lnk_row.mpr ⟨t,B,λx j=>D x (c5 _ j),rfl⟩,λx j=>?_,wo_wo1⟩;rw[aL.mp j];exact mem_wo.mpr ⟨D n (bf _ (aL.mpr rfl)),hn⟩
theorem dJk{m:Nat}{ts:List (List Str)}{T:List Str}(g:goW m (lnk ts T)=true):nmW (lnk ts T)∉T:=by
 obtain⟨u,B,j⟩:=mem_nms.mp (cXj g);obtain⟨t,D,_,rfl⟩:=mem_lnk_row.mp B;exact(mem_wo.mp j).2
theorem dZ5{m:Nat}{ts:List (List Str)}(nd:ts.Nodup)(hs:∀t∈ts,Srt t):∀(f:Nat) (T:List Str),T.Nodup->(T++tkW (wayS m f (lnk ts T))).Nodup/\(wayS m f (lnk ts T)).2=lnk ts (T++tkW (wayS m f (lnk ts T))) /\
  ∀(i:Nat) s,(wayS m f (lnk ts T)).1[i]?=some s->s.1<m/\s.2.2=(ts.filter λt=>has t (T++(tkW (wayS m f (lnk ts T))).take i)).length/\(tkW (wayS m f (lnk ts T)))[i]?=some s.2.1
 |0,T,j=>⟨by show(T++[]).Nodup;rw[br];exact j,by show lnk ts T=lnk ts (T++[]);rw[br],λi s h=>by cases h⟩
 |f+1,T,j=>by
  cases g:goW m (lnk ts T) with
  |false =>
   rw[aQy g];exact⟨by show(T++[]).Nodup;rw[br];exact j,by show lnk ts T=lnk ts (T++[]);rw[br],λi s h=>by cases h⟩
  |true =>
   have hn:=dJk g;have B:(T++[nmW (lnk ts T)]).Nodup:=dI.mpr ⟨j,by simp,λa L b J e=>by rw[aL] at J;subst J;subst e;exact hn L⟩
   obtain⟨h1,h2,N⟩:=dZ5 (m:=m) nd hs f (T++[nmW (lnk ts T)]) B;rw[aX2 g];rw[dQf nd hs hn];have O:m>(chs (lnk ts T)).length:=by
    unfold goW at g;rw[bL] at g;exact of_decide_eq_true g.1
   generalize nmW (lnk ts T)=n at *
   have Y:tkW (((chs (lnk ts T)).length,n,(lnk ts T).length)::(wayS m f (lnk ts (T++[n]))).1,(wayS m f (lnk ts (T++[n]))).2)=n::tkW (wayS m f (lnk ts (T++[n]))):=rfl;rw[Y];have D:∀l:List Str,T++n::l=T++[n]++l:=λl=>by simp
   refine⟨by rw[D];exact h1,h2.trans (by rw[D (tkW (wayS m f (lnk ts (T++[n]))))]),λi s h=>?_⟩
   cases i with
   |zero =>
    cases h;refine⟨O,?_,rfl⟩;rw[jl,br];exact bZ6 ts T
   |succ i =>
    have:=N i s h
    refine⟨this.1,?_,this.2.2⟩;rw[List.take_succ_cons,D];exact this.2.1
theorem aZq{m:Nat}{ts:List (List Str)}(hs:SrtT ts)(he:∀t∈ts,Srt t)(f:Nat):(tkW (wayS m f ts)).Nodup/\(wayS m f ts).2=lnk ts (tkW (wayS m f ts)) /\
  ∀(i:Nat) s,(wayS m f ts).1[i]?=some s->s.1<m/\s.2.2=(ts.filter λt=>has t ((tkW (wayS m f ts)).take i)).length/\(tkW (wayS m f ts))[i]?=some s.2.1:=by
 have:=dZ5 (m:=m) hs.nodup he f [] fk
 rw[dJj hs] at this;exact this
theorem cXp{m:Nat}:∀(f:Nat) {ts:List (List Str)},Wc f ts->goW m (wayS m f ts).2=false
 |0,ts,h=>bXv h
 |f+1,ts,h=>by
  cases g:goW m ts with
  |false=>rw[aQy g];exact g
  |true=>rw[aX2 g];exact cXp f (h.link _)
theorem bZ7{t T:List Str}(ht:Srt t)(hT:T.Nodup)(h:∀x∈T,x∈t):srS (wo t T++T)=t:=by
 refine Srt.ext (aZo (dI.mpr ⟨(aJ4 ht _).nodup,hT,λa D b B e=>(mem_wo.mp D).2 (e▸B)⟩)) ht λx=>?_;rw[mem_srS,aN,mem_wo];constructor
 ·rintro(h1|h1)
  ·exact h1.1
  ·exact h x h1
 ·intro j
  by_cases h1:x∈T
  ·exact .inr h1
  ·exact .inl ⟨j,h1⟩
structure Pg(ts cs:List (List Str))(T:List Str):Prop where
 nd:T.Nodup
 sub:cs.Sublist (lnk ts T)
 ap:Ap2 cs
section
variable{ts cs:List (List Str)}{T:List Str}
theorem Pg.src(h:Pg ts cs T)(hs:∀t∈ts,Srt t){u:List Str}(hu:u∈cs):∃t∈ts,(∀x∈T,x∈t)/\wo t T=u/\srS (u++T)=t:=by
 obtain⟨t,j,B,rfl⟩:=mem_lnk_row.mp (h.sub.subset hu);exact⟨t,j,B,rfl,bZ7 (hs t j) h.nd B⟩
theorem Pg.mem(h:Pg ts cs T)(hs:∀t∈ts,Srt t){t:List Str}(ht:t∈pag cs T):t∈ts/\(∀x∈T,x∈t)/\wo t T∈cs:=by
 unfold pag at ht;rw[mem_srT,aP] at ht;obtain⟨u,j,rfl⟩:=ht;obtain⟨t,h1,h2,D,B⟩:=h.src hs j;rw[B];exact⟨h1,h2,D▸j⟩
theorem Pg.nodup(h:Pg ts cs T)(nd:ts.Nodup)(hs:∀t∈ts,Srt t):(cs.map λu=>srS (u++T)).Nodup:=by
 have j:cs.Nodup:=(aQz (T:=T) nd hs).nodup.sublist h.sub;unfold fK;rw[bO];refine bK ?_ j;intro a b N L B e;obtain⟨t,_,_,Y,O⟩:=h.src hs N;obtain⟨Z,_,_,J,D⟩:=h.src hs L;rw[O,D] at e;exact B (by rw[<- Y,<- J,e])
theorem dJl(cs:List (List Str))(T:List Str):(pag cs T).length=cs.length:=by
 unfold pag;rw[(aZn _).length_eq,ak]
theorem Pg.srt(h:Pg ts cs T)(nd:ts.Nodup)(hs:∀t∈ts,Srt t):SrtT (pag cs T):=aZp (h.nodup nd hs)
end
theorem bJs{m f:Nat}{ts:List (List Str)}(hs:SrtT ts)(he:∀t∈ts,Srt t):Pg ts ((chs (wayS m f ts).2).take m) (tkW (wayS m f ts)):=by
 obtain⟨h1,h2,_⟩:=aZq (m:=m) hs he f;refine⟨h1,?_,(dZ2 _).sublist (dG _ _)⟩;rw[<- h2];exact(dG _ _).trans (aQx _)
theorem dJm{t T:List Str}:(T.filter λx=>!decide (x∈t)).isEmpty=has t T:=by
 rw[fH,List.isEmpty_iff,List.filter_eq_nil_iff,has_iff];exact⟨λh x j=>by simpa using h x j,λh x j=>by simpa using h x j⟩
theorem bZ8{m:Nat}:∀(f:Nat) (ts:List (List Str)),(wayS m f ts).1.length<=f
 |0,_=>Nat.le_refl 0
 |f+1,ts=>by
  cases g:goW m ts with
  |false=>rw[aQy g];exact Nat.zero_le _
  |true=>rw[aX2 g];exact Nat.succ_le_succ (bZ8 f _)
theorem dJn{cs:List (List Str)}(hs:SrtT cs)(he:∀t∈cs,Srt t):pag cs []=cs:=by
 unfold pag;have e:cs.map (λt=>srS (t++[]))=cs:=by
  conv=>rhs;rw[<- List.map_id cs]
  exact dP λt j=>by rw[br];exact eJ6 (he t j)
 rw[e,cXf hs]
theorem cXq{m:Nat}:∀(f:Nat) (ts:List (List Str)),(wayS m f ts).2.length<=ts.length
 |0,_=>Nat.le_refl _
 |f+1,ts=>by
  cases g:goW m ts with
  |false=>rw[aQy g];exact Nat.le_refl _
  |true =>
   rw[aX2 g];refine Nat.le_trans (cXq f _) ?_;rw[bZ6];exact dr _ _
theorem eJd{m f:Nat}{ts:List (List Str)}(h:ts.length<m):flW m (wayS m f ts)=none:=by
 unfold flW
 have:=cXq (m:=m) f ts
 have:=(aQx (wayS m f ts).2).length_le
 rw[if_pos (by omega)]
theorem cXr{n:Str}:∀(ts:List (List Str)) (t:List Str),n∈t->(∀u∈ts,n∈u)->chF [t] ts=[t]
 |[],_,_,_=>rfl
 |u::ts,t,h,j=>by
  unfold chF;have hm:[t].any (λo=>mts u o)=true:=dy.mpr ⟨t,aL.mpr rfl,mts_iff.mpr ⟨n,h,j u au⟩⟩;rw[if_pos hm];exact cXr ts t h λv B=>j v (ay _ B)
theorem cXs{n:Str}{t:List Str}{ts:List (List Str)}(h:∀u∈t::ts,n∈u):chs (t::ts)=[t]:=by
 unfold chs chF;rw[if_neg (by simp)]
 exact cXr ts t (h t au) λu j=>h u (ay _ j)
theorem dJo{ts:List (List Str)}{n:Str}(h:∀u∈ts,n∈u):hmh ts n=ts.length:=by
 unfold hmh;rw[fB.mpr λu j=>decide_eq_true (h u j)]
theorem eJe(ts:List (List Str))(n:Str):hmh ts n<=ts.length:=dr _ _
theorem dJp{ts:List (List Str)}{n:Str}(h:hmh ts n=ts.length):∀u∈ts,n∈u:=λu j=>by
 have e:(ts.filter λt=>decide (n∈t))=ts:=(List.filter_sublist).eq_of_length h
 have:u∈ts.filter λt=>decide (n∈t):=by rw[e];exact j
 exact of_decide_eq_true (bM.mp this).2
theorem dJq{t:List Str}{ts:List (List Str)}(hs:Srt t){c:Str}{cs:List Str}(hc:Srt (c::cs))(hm:∀x,x∈c::cs↔∀u∈t::ts,x∈u):nmW (t::ts)=c:=by
 have B:=(hm c).mp au;unfold nmW;rw[cXs B];have hn:nms [t]=t:=(cXg (ts:=[t]) (out:=t) hs λx=>by simp).symm
 rw[hn]
 symm
 refine dZ4 hs (B t au) λy D=>?_;unfold pl;dsimp only;rw[dJo B]
 by_cases e:hmh (t::ts) y=(t::ts).length
 ·rw[e,if_pos rfl];have j:=(hm y).mpr (dJp e);rcases aM.mp j with z|z
  ·rw[z,HT.ltS_ir]
  ·exact HT.ltS_as ((a8.mp hc).1 y z)
 ·have:=eJe (t::ts) y
  rw[if_neg (by omega)]
  exact decide_eq_false (by omega)
structure Up(f:Str->Str)(U:List Str):Prop where
 up:∀a∈U,∀b∈U,HT.ltS a b=true->HT.ltS (f a) (f b)=true
abbrev In(U:List Str)(ts:List (List Str)):Prop:=∀t∈ts,∀x∈t,x∈U
section
variable{f:Str->Str}{U:List Str}(h:Up f U)
include h
theorem Up.lt{a b:Str}(ha:a∈U)(hb:b∈U):HT.ltS (f a) (f b)=HT.ltS a b:=by
 cases e:HT.ltS a b with
 |true=>exact h.up a ha b hb e
 |false =>
  by_cases j:a=b
  ·rw[j,HT.ltS_ir]
  ·exact HT.ltS_as (h.up b hb a ha (HT.ltS_tot e j))
theorem Up.inj{a b:Str}(ha:a∈U)(hb:b∈U)(e:f a=f b):a=b:=by
 refine ba λj=>?_;cases z:HT.ltS a b with
 |true=>have:=h.up a ha b hb z;rw[e,HT.ltS_ir] at this;cases this
 |false=>have:=h.up b hb a ha (HT.ltS_tot z j);rw[e,HT.ltS_ir] at this;cases this
theorem Up.mem{t:List Str}(ht:∀x∈t,x∈U){x:Str}(hx:x∈U):f x∈t.map f↔x∈t:=by
 rw[aP];exact⟨λ⟨y,j,e⟩=>h.inj (ht y j) hx e▸j,λhx=>⟨x,hx,rfl⟩⟩
theorem Up.srt{t:List Str}(st:Srt t)(ht:∀x∈t,x∈U):Srt (t.map f):=by
 unfold Srt;rw[bO];exact bK (λB j e=>h.up _ (ht _ B) _ (ht _ j) e) st
theorem Up.lex:∀{a b:List Str},(∀x∈a,x∈U)->(∀x∈b,x∈U)->HT.lexS (a.map f) (b.map f)=HT.lexS a b
 |[],[],_,_=>rfl
 |[],y::b,_,_=>rfl
 |x::a,[],_,_=>rfl
 |x::a,y::b,D,B=>by
  rw[bg,bg,HT.lexS_cons,HT.lexS_cons,h.lt (D x au) (B y au),Up.lex (λz j=>D z (ay _ j)) λz j=>B z (ay _ j)]
  by_cases e:x=y
  ·rw[if_pos e,if_pos (by rw[e])]
  ·rw[if_neg e,if_neg (λz=>e (h.inj (D x au) (B y au) z))]
theorem Up.srtT{ts:List (List Str)}(st:SrtT ts)(ht:In U ts):SrtT (ts.map (bq f)):=by
 unfold SrtT;rw[bO];exact bK (λB j e=>(h.lex (ht _ B) (ht _ j)).trans e) st
theorem Up.mts{t o:List Str}(ht:∀x∈t,x∈U)(ho:∀x∈o,x∈U):mts (t.map f) (o.map f)=mts t o:=by
 rw[fH,mts_iff,mts_iff];constructor
 ·rintro⟨y,J,B⟩;obtain⟨x,j,rfl⟩:=aP.mp J;exact⟨x,j,(h.mem ht (ho x j)).mp B⟩
 ·rintro⟨x,j,D⟩;exact⟨f x,bA j,bA D⟩
theorem Up.chF:∀{ts acc:List (List Str)},In U acc->In U ts->chF (acc.map (bq f)) (ts.map (bq f))=(chF acc ts).map (bq f)
 |[],_,_,_=>rfl
 |t::ts,acc,J,D=>by
  have e:(acc.map (bq f)).any (λo=>L2.mts (t.map f) o)=acc.any (λo=>L2.mts t o):=by
   rw[f6,fH,dy,dy];have e:=λo j=>h.mts (D t au) (J o j);exact⟨λ⟨o,j,z⟩=>⟨o,j,(e o j).symm.trans z⟩,λ⟨o,j,z⟩=>⟨o,j,(e o j).trans z⟩⟩
  rw[bg];unfold L2.chF;rw[e]
  split
  ·exact Up.chF J λu B=>D u (ay _ B)
  ·have:=Up.chF (ts:=ts) (acc:=acc++[t]) (λu B=>by
    rcases aN.mp B with z|z
    ·exact J u z
    ·rw[aL.mp z];exact D t au) λu B=>D u (ay _ B)
   rw[b9] at this;exact this
theorem Up.chs{ts:List (List Str)}(ht:In U ts):chs (ts.map (bq f))=(chs ts).map (bq f):=h.chF (acc:=[]) (λ_ z=>by cases z) ht
theorem Up.goW{m:Nat}{ts:List (List Str)}(ht:In U ts):goW m (ts.map (bq f))=goW m ts:=by
 unfold L2.goW;rw[h.chs ht,ak,f6]
 congr 2
 funext t;cases t <;> rfl
theorem Up.nms{ts:List (List Str)}(ht:In U ts):nms (ts.map (bq f))=(nms ts).map f:=by
 symm
 have hn:∀x∈L2.nms ts,x∈U:=λx j=>by
  obtain⟨t,h1,h2⟩:=mem_nms.mp j;exact ht t h1 x h2
 refine cXg (h.srt (aXy ts) hn) λy=>?_;constructor
 ·intro B;obtain⟨x,j,rfl⟩:=aP.mp B;obtain⟨t,h1,h2⟩:=mem_nms.mp j;exact⟨_,bA h1,bA h2⟩
 ·rintro⟨u,D,B⟩;obtain⟨t,h1,rfl⟩:=aP.mp D;obtain⟨x,j,rfl⟩:=aP.mp B;exact bA (mem_nms.mpr ⟨t,h1,j⟩)
theorem Up.hmh{ts:List (List Str)}(ht:In U ts){n:Str}(hn:n∈U):hmh (ts.map (bq f)) (f n)=hmh ts n:=by
 unfold L2.hmh;rw[List.filter_map,ak]
 congr 1
 refine f8 λt h1=>?_;exact decide_eq_decide.mpr (h.mem (ht t h1) hn)
theorem Up.mst{ts:List (List Str)}(ht:In U ts){ns:List Str}(hs:Srt ns)(hn:∀x∈ns,x∈U)(h0:ns≠[]):mst (ts.map (bq f)) (ns.map f)=f (mst ts ns):=by
 have hm:=bXt (ts:=ts) h0
 symm
 refine dZ4 (h.srt hs hn) (bA hm) λy B=>?_;obtain⟨x,j,rfl⟩:=aP.mp B;have D:=bJr (ts:=ts) hs j;unfold pl;dsimp only;rw[h.hmh ht (hn x j),h.hmh ht (hn _ hm),h.lt (hn x j) (hn _ hm)]
 by_cases e:L2.hmh ts x=L2.hmh ts (L2.mst ts ns)
 ·rw[if_pos (by omega)]
  rcases D.2 e with z|z
  ·rw[<- z];exact HT.ltS_ir x
  ·exact HT.ltS_as z
 ·rw[if_neg (by omega)]
  exact decide_eq_false (by omega)
theorem Up.nmW{m:Nat}{ts:List (List Str)}(ht:In U ts)(g:L2.goW m ts=true):nmW (ts.map (bq f))=f (nmW ts):=by
 unfold L2.nmW;have j:In U (L2.chs ts):=λt h1=>ht t ((aQx ts).subset h1);rw[h.chs ht,h.nms j];exact h.mst ht (aXy _) (λx B=>by
  obtain⟨t,h1,h2⟩:=mem_nms.mp B;exact j t h1 x h2) (bXu g)
theorem Up.wo{t:List Str}(ht:∀x∈t,x∈U){T:List Str}(hT:∀x∈T,x∈U):wo (t.map f) (T.map f)=(wo t T).map f:=by
 unfold L2.wo;rw[List.filter_map]
 congr 1
 refine f8 λx j=>?_
 have:=h.mem hT (ht x j)
 show(!decide (f x∈T.map f))=!decide (x∈T);rw[decide_eq_decide.mpr this]
theorem Up.lnk{ts:List (List Str)}(st:SrtT ts)(he:∀t∈ts,Srt t)(ht:In U ts){T:List Str}(hT:∀x∈T,x∈U):lnk (ts.map (bq f)) (T.map f)=(lnk ts T).map (bq f):=by
 have hl:In U (L2.lnk ts T):=λu D x j=>by
  obtain⟨t,h1,_,rfl⟩:=mem_lnk_row.mp D;exact ht t h1 x (mem_wo.mp j).1
 refine(aQz (h.srtT st ht).nodup λt h1=>?_).ext (h.srtT (aQz st.nodup he) hl) λu=>?_
 ·obtain⟨v,h2,rfl⟩:=aP.mp h1;exact h.srt (he v h2) (ht v h2)
 ·rw[mem_lnk_row,aP];constructor
  ·rintro⟨t,h1,h2,rfl⟩;obtain⟨v,B,rfl⟩:=aP.mp h1;exact⟨_,mem_lnk_row.mpr ⟨v,B,λx j=>(h.mem (ht v B) (hT x j)).mp (h2 _ (bA j)),rfl⟩,(h.wo (ht v B) hT).symm⟩
  ·rintro⟨u,D,rfl⟩;obtain⟨v,B,L,rfl⟩:=mem_lnk_row.mp D;exact⟨_,bA B,λy J=>by
    obtain⟨x,j,rfl⟩:=aP.mp J;exact bA (L x j),h.wo (ht v B) hT⟩
def stF(f:Str->Str)(s:Nat×Str×Nat):Nat×Str×Nat:=(s.1,f s.2.1,s.2.2)
theorem Up.way{m:Nat}:∀(k:Nat) {ts:List (List Str)},SrtT ts->(∀t∈ts,Srt t)->In U ts->wayS m k (ts.map (bq f))=((wayS m k ts).1.map (stF f),(wayS m k ts).2.map (bq f))/\In U (wayS m k ts).2/\∀x∈tkW (wayS m k ts),x∈U
 |0,ts,st,he,j=>⟨rfl,j,λx hx=>by cases hx⟩
 |k+1,ts,st,he,j=>by
  cases g:L2.goW m ts with
  |false =>
   rw[aQy g,aQy ((h.goW j).trans g)];exact⟨rfl,j,λx hx=>by cases hx⟩
  |true =>
   have hn:∀x∈[L2.nmW ts],x∈U:=λx hx=>by
    rw[aL.mp hx];obtain⟨t,h1,h2⟩:=mem_nms.mp (cXj g);exact j t h1 _ h2
   have hl:In U (L2.lnk ts [L2.nmW ts]):=λu D x hx=>by
    obtain⟨t,h1,_,rfl⟩:=mem_lnk_row.mp D;exact j t h1 x (mem_wo.mp hx).1
   have B:=Up.way (m:=m) k (aQz (T:=[L2.nmW ts]) st.nodup he) (λu D=>by
    obtain⟨t,h1,_,rfl⟩:=mem_lnk_row.mp D;exact aJ4 (he t h1) _) hl
   rw[aX2 g,aX2 ((h.goW j).trans g),h.nmW j g];have el:=h.lnk st he j hn;rw[List.map_singleton] at el;rw[el,B.1,h.chs j,ak,ak];refine⟨rfl,B.2.1,λx hx=>?_⟩;rcases aM.mp hx with z|z
   ·exact hn x (aL.mpr z)
   ·exact B.2.2 x z
theorem Up.srS{l:List Str}(hl:∀x∈l,x∈U)(nd:l.Nodup):srS (l.map f)=(srS l).map f:=by
 have B:(l.map f).Nodup:=by
  unfold fK;rw[bO];exact bK (λJ D ne e=>ne (h.inj (hl _ J) (hl _ D) e)) nd
 refine(aZo B).ext (h.srt (aZo nd) λx j=>hl x (mem_srS.mp j)) λy=>?_;rw[mem_srS,aP,aP];exact⟨λ⟨x,j,e⟩=>⟨x,mem_srS.mpr j,e⟩,λ⟨x,j,e⟩=>⟨x,mem_srS.mp j,e⟩⟩
theorem Up.fl{m k:Nat}{ts:List (List Str)}(st:SrtT ts)(he:∀t∈ts,Srt t)(ht:In U ts):flW m (wayS m k (ts.map (bq f)))=(flW m (wayS m k ts)).map (bq (bq f)):=by
 obtain⟨e,hi,Y⟩:=h.way (m:=m) k st he ht;have pg:=bJs (m:=m) (f:=k) st he;obtain⟨nd,e2,_⟩:=aZq (m:=m) st he k;rw[e];unfold flW;have et:tkW ((wayS m k ts).1.map (stF f),(wayS m k ts).2.map (bq f))=(tkW (wayS m k ts)).map f:=by
  unfold tkW;rw[a7,a7];rfl
 rw[et];dsimp only;rw[h.chs hi,ak];generalize tkW (wayS m k ts)=T at *
 split
 ·rfl
 ·rw[Option.map_some]
  congr 1
  rw[<- jx];have Z:In U ((L2.chs (wayS m k ts).2).take m):=λt h1=>hi t ((aQx _).subset (cr h1));have hs:∀t∈(L2.chs (wayS m k ts).2).take m,(t++T).Nodup:=λt h1=>by
   have:=(aQx _).subset (cr h1)
   rw[e2] at this;obtain⟨v,h3,_,rfl⟩:=mem_lnk_row.mp this;exact dI.mpr ⟨(aJ4 (he v h3) _).nodup,nd,λa N b L e=>(mem_wo.mp N).2 (e▸L)⟩
  have pn:=pg.nodup st.nodup he;generalize (L2.chs (wayS m k ts).2).take m=cs at *
  have B:∀t∈cs,∀x∈t++T,x∈U:=λt h1 x j=>(aN.mp j).elim (Z t h1 x) (Y x);have e3:(cs.map (bq f)).map (λt=>L2.srS (t++T.map f))=(cs.map λt=>L2.srS (t++T)).map (bq f):=by
   rw[a7,a7];refine dP λt h1=>?_;show L2.srS (t.map f++T.map f)=(L2.srS (t++T)).map f;rw[<- b9];exact h.srS (B t h1) (hs t h1)
  unfold pag;rw[e3];have O:In U (cs.map λt=>L2.srS (t++T)):=λu J x j=>by
   obtain⟨t,h1,rfl⟩:=aP.mp J;exact B t h1 x (mem_srS.mp j)
  have D:((cs.map λt=>L2.srS (t++T)).map (bq f)).Nodup:=by
   unfold fK;rw[bO];refine bK (λ{a b} N L ne e=>ne ?_) pn;refine gx (by have:=congrArg iu e;rwa [ak,ak] at this) λi h1 h2=>?_
   have:=congrArg (λl=>l[i]?) e
   rw[aK,aK,ag h1,ag h2] at this;injection this with this
   exact h.inj (O a N _ (cS h1)) (O b L _ (cS h2)) this
  refine(aZp D).ext (h.srtT (aZp pn) λu B x j=>O u (mem_srT.mp B) x j) λy=>?_;rw[mem_srT,aP,aP];exact⟨λ⟨x,j,e⟩=>⟨x,mem_srT.mpr j,e⟩,λ⟨x,j,e⟩=>⟨x,mem_srT.mp j,e⟩⟩
theorem Up.la{l:List (List Str)}(hl:In U l):laD (l.map (bq f))=laD l:=by
 unfold laD;rw[h.chs hl,ak,ak]
theorem Up.wayD{m:Nat}{ts:List (List Str)}(st:SrtT ts)(he:∀t∈ts,Srt t)(ht:In U ts):wayD m (ts.map (bq f))=.tup [opT ((flW m (wayS m 6 ts)).map (bq (bq f))),.tup ((wayS m 6 ts).1.map (λs=>stD (stF f s))++[laD (wayS m 6 ts).2])]:=by
 obtain⟨e,hi,_⟩:=h.way (m:=m) 6 st he ht;unfold L2.wayD trD;rw[h.fl st he ht,e];dsimp only;rw[h.la hi,a7];rfl
end
theorem dJr{m k:Nat}{ts:List (List Str)}(hs:SrtT ts)(he:∀t∈ts,Srt t){g:List (List Str)}(e:flW m (wayS m k ts)=some g):m<=(chs (wayS m k ts).2).length/\g=pag ((chs (wayS m k ts).2).take m) (tkW (wayS m k ts))/\(∀t∈g,t∈ts)/\g.length=m:=by
 have pg:=bJs (m:=m) (f:=k) hs he;unfold flW at e
 by_cases h:(chs (wayS m k ts).2).length<m
 ·rw[if_pos h] at e;cases e
 ·rw[if_neg h] at e;injection e with e
  subst e;exact⟨by omega,rfl,λt j=>(pg.mem he j).1,by rw[dJl,a6];omega⟩
theorem aZ8{c:Str}{l:List (List Str)}(h:SrtT l):SrtT (l.map (bZ c)):=by
 unfold SrtT;rw[bO];exact jB (λ{a b} e=>by rw[HT.lexS_cons,if_pos rfl];exact e) h
theorem dQg{c:Str}{l:List Str}(nd:l.Nodup)(h:∀x∈l,HT.ltS c x=true):srS (c::l)=c::srS l/\Srt (c::srS l):=by
 have s1:Srt (c::srS l):=a8.mpr ⟨λx B=>h x (mem_srS.mp B),aZo nd⟩;have j:(c::l).Nodup:=cA.mpr ⟨λz=>(by have:=h c z;rw[HT.ltS_ir] at this;cases this),nd⟩
 exact⟨(aZo j).ext s1 λx=>by rw[mem_srS,aM,aM,mem_srS],s1⟩
theorem cXt{m:Nat}(m2:2<=m){c:Str}{ts:List (List Str)}(hW:Wc 5 ts)(hc:∀t∈ts,Srt (c::t))(ne:ts≠[]):wayS m 6 (ts.map (bZ c))=((1,c,ts.length)::(wayS m 6 ts).1,(wayS m 6 ts).2)/\flW m (wayS m 6 (ts.map (bZ c)))=(flW m (wayS m 6 ts)).map (bq (bZ c)):=by
 have hs:=hW.srt;have he:=λt ht=>(hW.each t ht).1;have gt:∀t∈ts,∀x∈t,HT.ltS c x=true:=λt ht=>(a8.mp (hc t ht)).1;have cn:∀t∈ts,c∉t:=λt ht z=>by have:=gt t ht c z;rw[HT.ltS_ir] at this;cases this
 have ws:SrtT (ts.map (bZ c)):=aZ8 hs;have O:∀t∈ts.map (bZ c),Srt t:=λt ht=>by
  obtain⟨u,B,rfl⟩:=aP.mp ht;exact hc u B
 have J:∀u∈ts.map (bZ c),c∈u:=λt ht=>by
  obtain⟨u,B,rfl⟩:=aP.mp ht;exact au
 have el:lnk (ts.map (bZ c)) [c]=ts:=by
  refine(aQz ws.nodup O).ext hs λu=>?_;have ew:∀v∈ts,wo (c::v) [c]=v:=λv D=>by
   unfold wo;rw[fy,if_neg (by simp)]
   refine fB.mpr λx j=>?_
   have:x≠c:=λz=>cn v D (z▸j)
   simp[this]
  rw[mem_lnk_row];constructor
  ·rintro⟨t,ht,_,rfl⟩;obtain⟨v,D,rfl⟩:=aP.mp ht;rw[ew v D];exact D
  ·intro B;exact⟨c::u,bA B,λx j=>by rw[aL.mp j];exact au,ew u B⟩
 obtain⟨t,ts',e0⟩:∃t ts',ts.map (bZ c)=t::ts':=by
  cases ts with
  |nil=>exact absurd rfl ne
  |cons t ts=>exact⟨_,_,rfl⟩
 have ec:chs (ts.map (bZ c))=[t]:=by
  rw[e0] at J ⊢;exact cXs J
 have en:nmW (ts.map (bZ c))=c:=by
  have Z:Srt (c::(nms ts).filter λx=>decide (∀ u∈ts,x∈u)):=a8.mpr ⟨λx j=>by
   obtain⟨u,B,j⟩:=mem_nms.mp (bM.mp j).1;exact gt u B x j,(aXy ts).filter _⟩
  have hm:∀x,x∈c::((nms ts).filter λx=>decide (∀u∈ts,x∈u))↔∀u∈ts.map (bZ c),x∈u:=λx=>by
   constructor
   ·intro j u B;rcases aM.mp j with z|z
    ·rw[z];exact J u B
    ·obtain⟨v,D,rfl⟩:=aP.mp B;exact ay _ (of_decide_eq_true (bM.mp z).2 v D)
   ·intro h
    by_cases e:x=c
    ·rw[e];exact au
    ·have h':∀v∈ts,x∈v:=λv D=>(aM.mp (h _ (bA D))).resolve_left e;refine ay _ (bM.mpr ⟨?_,decide_eq_true h'⟩);cases ts with
     |nil=>exact absurd rfl ne
     |cons v ts=>exact mem_nms.mpr ⟨v,au,h' v au⟩
  rw[e0] at hm O ⊢;exact dJq (O t au) Z hm
 have g:goW m (ts.map (bZ c))=true:=by
  unfold goW;rw[ec];have h1:decide ([t].length<m)=true:=decide_eq_true (by show 1<m;omega)
  have ht:=J t (by rw[e0];exact au)
  rw[h1];cases t with
  |nil=>cases ht
  |cons a t=>rfl
 have e1:wayS m 6 (ts.map (bZ c))=((1,c,ts.length)::(wayS m 6 ts).1,(wayS m 6 ts).2):=by
  rw[aX2 g,en,el,ec,ak,bX2 5 6 hW (by decide)]
  rfl
 refine⟨e1,?_⟩;rw[e1];obtain⟨nd,e2,_⟩:=aZq (m:=m) hs he 6;have pg:=bJs (m:=m) (f:=6) hs he;unfold flW;have et:tkW ((1,c,ts.length)::(wayS m 6 ts).1,(wayS m 6 ts).2)=c::tkW (wayS m 6 ts):=rfl;rw[et];dsimp only
 split
 ·rfl
 ·rw[Option.map_some]
  congr 1
  have hT:(chs (wayS m 6 ts).2).take m≠[]->∀x∈tkW (wayS m 6 ts),HT.ltS c x=true:=λhn x j=>by
   obtain⟨u,B⟩:=List.exists_mem_of_ne_nil _ hn;obtain⟨v,D,h3,_,_⟩:=pg.src he B;exact gt v D x (h3 x j)
  have N:∀u∈(chs (wayS m 6 ts).2).take m,(u++tkW (wayS m 6 ts)).Nodup/\∀x∈u,HT.ltS c x=true:=λu B=>by
   obtain⟨v,D,h3,rfl,_⟩:=pg.src he B;exact⟨dI.mpr ⟨(aJ4 (he v D) _).nodup,nd,λa J b hb e=>(mem_wo.mp J).2 (e▸hb)⟩,λx j=>gt v D x (mem_wo.mp j).1⟩
  have pn:=pg.nodup hs.nodup he;generalize tkW (wayS m 6 ts)=T at *
  generalize (chs (wayS m 6 ts).2).take m=cs at *
  have e3:(cs.map λu=>srS (u++c::T))=(cs.map λu=>srS (u++T)).map (bZ c):=by
   rw[a7];refine dP λu B=>?_;have hT:=hT (List.ne_nil_of_mem B)
   have:=dQg (c:=c) (N u B).1 λx j=>(aN.mp j).elim ((N u B).2 x) (hT x)
   show srS (u++c::T)=c::srS (u++T);rw[<- this.1];have L:(c::(u++T)).Nodup:=(aZm _).nodup_iff.mp (this.1▸this.2.nodup);refine(aZo ((gv).nodup_iff.mpr L)).ext (aZo L) λx=>?_;rw[mem_srS,mem_srS];simp only[aN,aM];constructor
   ·rintro(h|h|h)
    ·exact .inr (.inl h)
    ·exact .inl h
    ·exact .inr (.inr h)
   ·rintro(h|h|h)
    ·exact .inr (.inl h)
    ·exact .inl h
    ·exact .inr (.inr h)
  unfold pag;rw[e3];have Y:((cs.map λu=>srS (u++T)).map (bZ c)).Nodup:=by
   unfold fK;rw[bO];exact jB (λne e=>ne (bZ.inj e).2) pn
  refine(aZp Y).ext (aZ8 (aZp pn)) λy=>?_;rw[mem_srT,aP,aP];exact⟨λ⟨x,j,e⟩=>⟨x,mem_srT.mpr j,e⟩,λ⟨x,j,e⟩=>⟨x,mem_srT.mp j,e⟩⟩
theorem bJt{m:Nat}{ts:List (List Str)}(hW:Wc 6 ts):wayS m 6 (wayS m 6 ts).2=([],(wayS m 6 ts).2):=aQy (cXp 6 hW)
theorem dJs{m:Nat}{ts:List (List Str)}(hW:Wc 6 ts):flW m (wayS m 6 (wayS m 6 ts).2)=if (chs (wayS m 6 ts).2).length<m then none else some ((chs (wayS m 6 ts).2).take m):=by
 rw[bJt hW];have he:=λt j=>(hW.each t j).1;obtain⟨nd,e2,_⟩:=aZq (m:=m) hW.srt he 6;have hl:SrtT (wayS m 6 ts).2:=by rw[e2];exact aQz hW.srt.nodup he
 have hle:∀t∈(wayS m 6 ts).2,Srt t:=λt j=>by
  rw[e2] at j;obtain⟨v,B,_,rfl⟩:=mem_lnk_row.mp j;exact aJ4 (he v B) _
 unfold flW
 split
 ·rfl
 ·congr 1
  exact dJn (hl.sublist ((dG _ _).trans (aQx _))) λt j=>hle t ((aQx _).subset (cr j))
theorem dJt{m:Nat}{ts:List (List Str)}(hW:Wc 6 ts):srT ((pag ((chs (wayS m 6 ts).2).take m) (tkW (wayS m 6 ts))).map λt=>wo t (tkW (wayS m 6 ts)))=(chs (wayS m 6 ts).2).take m:=by
 have he:=λt B=>(hW.each t B).1;obtain⟨nd,e2,_⟩:=aZq (m:=m) hW.srt he 6;have pg:=bJs (m:=m) (f:=6) hW.srt he;have hl:SrtT (wayS m 6 ts).2:=by rw[e2];exact aQz hW.srt.nodup he
 have L:SrtT ((chs (wayS m 6 ts).2).take m):=hl.sublist ((dG _ _).trans (aQx _));have J:=pg.srt hW.srt.nodup he;generalize tkW (wayS m 6 ts)=T at *
 generalize (chs (wayS m 6 ts).2).take m=cs at *
 have mem:∀u,u∈(pag cs T).map (λt=>wo t T)↔u∈cs:=λu=>by
  rw[aP];constructor
  ·rintro⟨t,B,rfl⟩;exact(pg.mem he B).2.2
  ·intro D;obtain⟨v,hv,h3,Z,Y⟩:=pg.src he D;refine⟨v,?_,Z⟩;unfold pag;rw[mem_srT];exact aP.mpr ⟨u,D,Y⟩
 have j:((pag cs T).map λt=>wo t T).Nodup:=by
  unfold fK;rw[bO];refine bK (λ{a b} O N ne e=>ne ?_) J.nodup;have h1:=pg.mem he O;have h2:=pg.mem he N;rw[<- bZ7 (he a h1.1) nd h1.2.1,<- bZ7 (he b h2.1) nd h2.2.1,e]
 exact(aZp j).ext L λu=>by rw[mem_srT];exact mem u
theorem dZ6(xs:List D)(x:D):cutD (xs++[x]) (some (-1)) none=[x]:=by
 unfold cutD;have e1:HT.sIx (xs++[x]).length (xs++[x]).length none=(xs++[x]).length:=rfl;have e2:HT.sIx (xs++[x]).length 0 (some (-1))=xs.length:=by
  rw[aG];show(if (-1:Int)<0 then ((-1:Int)+((xs.length+1:Nat):Int)).toNat else min ((-1:Int).toNat) (xs.length+1))=_
  rw[if_pos (by decide)]
  omega
 rw[e1,e2,List.drop_left,aG];show [x].take (xs.length+1-xs.length)=[x];rw[Nat.add_sub_cancel_left];rfl
end L2
namespace L2
open PySem PySem.Spec PyProof.Rows
section
variable{P:aE}{w:aQ}
def nonH:Int:=reduceHash 0xFCA86420
def oIs:Option Key->ad->Bool
 |none,.none=>true
 |none,_=>false
 |some k,v=>bQi k v
theorem aZ9:∀{v:ad},oIs none v=true->v=.none
 |.none,_=>rfl
def cXu(P:aE)(w:aQ):PySem.KeyKind P w (Option Key) where
 is:=oIs
 hash|none=>nonH|some k=>keyH w k
 inj:=λv a b ha hb=>by
  cases a with
  |none =>
   obtain rfl:=aZ9 ha;cases b with
   |none=>rfl
   |some b=>rcases aQc hb with⟨i,t,_,e⟩|⟨x,t,_,e⟩ <;> cases e
  |some a =>
   cases b with
   |none =>
    obtain rfl:=aZ9 hb;rcases aQc ha with⟨i,t,_,e⟩|⟨x,t,_,e⟩ <;> cases e
   |some b=>exact congrArg some ((aQd P w).inj v a b ha hb)
 byValue:=λk v h=>by
  cases k with
  |none=>obtain rfl:=aZ9 h;rfl
  |some k=>exact(aQd P w).byValue k v h
 pyHash:=λ{A E s k v Q} hv h=>by
  cases k with
  |none =>
   obtain rfl:=aZ9 hv;exact PySem.W.pyHash_slot (T:="NoneType") rfl F.slot_NoneType_hash F.entry_NoneType_hash (F.args_NoneType_hash_1 _) (beq_builtin_none _) (.inl rfl) (aa (ae (aa (wpAny_mkInt (ae ⟨_,_,rfl,h⟩)))))
  |some k=>exact(aQd P w).pyHash hv h
 eqBool:=λ{A E s a b u v Q} hu hv h=>by
  cases a with
  |none =>
   obtain rfl:=aZ9 hu;cases b with
   |none =>
    obtain rfl:=aZ9 hv;unfold PySem.eqBool;refine bb ?_;refine fJ (λ_=>?_) (λz=>absurd rfl z);exact(show aF (aB P w) A (pure true) Q E s from ae h)
   |some b =>
    rcases aQc hv with⟨i,t,_,rfl⟩|⟨x,t,_,rfl⟩
    ·exact js i t _ _ _ _ h
    ·exact jt x t _ _ _ _ h
  |some a =>
   cases b with
   |none =>
    obtain rfl:=aZ9 hv;rcases aQc hu with⟨i,t,_,rfl⟩|⟨x,t,_,rfl⟩
    ·exact ju i t _ _ _ _ h
    ·exact jv x t _ _ _ _ h
   |some b =>
    refine(aQd P w).eqBool hu hv ?_;have e:decide (some a=some b)=decide (a=b):=decide_eq_decide.mpr ⟨λz=>by injection z,λz=>by rw[z]⟩
    rw[e] at h;exact h
 «strs»:=λk x t v h=>by
  cases k with
  |none=>cases aZ9 h
  |some k=>exact(aQd P w).strs k x t v h
theorem dJu{h:aX}{a:Addr}{f:Key->Option ad}(m:h.MapOf (aQd P w) a f):h.MapOf (cXu P w) a (λk=>match k with|none=>none|some k=>f k):=by
 obtain⟨o,es,L,h1,h2,J,B,D⟩:=m;refine⟨o,es,L,h1,h2,J,λe he=>?_,λk=>?_⟩
 ·obtain⟨k,j,hh⟩:=B e he;exact⟨some k,j,hh⟩
 ·cases k with
  |some k=>exact D k
  |none =>
   show(es.find? λe=>oIs none e.key).map (·.val)=none;rw[Option.map_eq_none_iff,Array.find?_eq_none];intro e he z;obtain⟨k,j,_⟩:=B e he;rw[aZ9 z] at j;rcases aQc j with⟨i,t,_,q⟩|⟨x,t,_,q⟩ <;> cases q
theorem eJf{X:Cx}{pins:List (Addr×Obj)}{σ:St}{H:Hp}{s:ah}{a:Addr}{d:V}{r:ad}{A:aW}{E:ad->ah->Prop}{Q:ad->ah->Prop}{kvs:List (Key×V)}(I:Inv X pins σ H s)(e:Rd H a (.dK kvs))(rd:RelV d r)(h:∀w' s',Inv X pins σ H s'->RelV d w'->Q w' s') :
  aF (aB X.prog X.w) A (call (.builtin "dict.get") [.ref a,.none,r]) Q E s:=by
 obtain⟨z,hd,vs,rel,dd⟩:=cZv I.hok e;exact call_meetsIn e6 dd.typeIs fZ (fP _ _ _) (meets_dict_get_default (cXu X.prog X.w) (k:=none) (key:=.none) a rfl hd r) ⟨_,dJu dd.mapOf,h _ _ (I.tok _) rd⟩
end
def eJg(td ty tx:TE):TE:=fun σ H Q=>td σ H λx H1=>∃a,x=.ref a/\IsD H1 a/\ty σ H1 λy H2=>tx σ H2 λz H3=>(∃kvs,y=.non/\Rd H3 a (.dK kvs)/\Q z H3)\/∃o,DGet H3 a y o/\Q (o.getD z) H3
section
variable{X:Cx}{o e f:Expr}{apos cpos:Pos}{td ty tx:TE}
theorem dQh(hu:X.A.units+1<de)(ho:PE X o td)(he:PE X e ty)(hf:PE X f tx)(m:M2 X o "get" apos e f cpos):PE X (.Call (.Attribute o "get" apos) [e,f] [] cpos) (eJg td ty tx):=by
 intro pins s σ H Q I h;refine wpAny_Call_method m.base m.few m.line PySem.F.plainAttrs_dict e6 PySem.F.type_dict_get (thn (ho pins s σ H _ I h) λu s1 ⟨x,H1,O,rx,a,ex,d,q1⟩=>?_);subst ex;obtain rfl:u=fq a:=rx;obtain⟨t1,t2,_⟩:=eXn O d;refine⟨t1,t2,?_⟩;rw[m.trees];refine jb rfl (Calls.evalArgs_plain (eM (thn (he pins s1 σ H1 _ O q1) λiv s2 ⟨y,H2,I2,L,q2⟩ =>
  eM (thn (hf pins s2 σ H2 _ I2 q2) λfv s3 ⟨z,Y,N,J,B⟩=>fR ?_))))
 rcases B with⟨kvs,ey,g,B⟩|⟨ov,g,B⟩
 ·subst ey;obtain rfl:iv=cL:=L;exact eJf N g J λZ s4 D j=>⟨_,Y,D,j,B⟩
 ·exact eXo hu N g L J λZ s4 D j=>⟨_,Y,D,j,B⟩
end
section
variable{X:Cx}{K:Fg}{k:Nat}{pos:Pos}
def eJh(td ty tx:ED):ED:=fun Γ S Q=>td Γ S λo S1=>∃a kvs0,o=.ref a/\S1 a=some (.dk kvs0)/\ty Γ S1 λy S2=>tx Γ S2 λz S3=>∃kvs,S3 a=some (.dk kvs)/\match y with
 |.non=>Q z S3
 |y=>∃key,dkey y=some key/\Q ((getG kvs key).getD z) S3
theorem dJv{o e f:Expr}{apos cpos:Pos}{td ty tx:ED}(hr:Room k X.A)(ho:PD K X o td)(he:PD K X e ty)(hf:PD K X f tx)(m:M2 X o "get" apos e f cpos:=by exact⟨rfl,rfl,rfl,rfl⟩):PD K X (.Call (.Attribute o "get" apos) [e,f] [] cpos) (eJh td ty tx) :=
 .of (dQh (lt10 hr) ho.o he.o hf.o m) fun σ H Q z0=>z0.el λF S Γ QD r g q c =>
 ⟨F,S,Γ,_,r,g,q,λx od H2 S2 Z r2 v2 q2=>by
  obtain⟨a,kvs0,rfl,hS0,q2⟩:=q2;obtain⟨ks0,hu0,lu0⟩:=r2.obj a _ hS0;refine⟨a,rref v2,.inl ⟨ks0,.inl hu0⟩,?_⟩;refine⟨F,S2,Γ,_,r2,g.ext Z,q2,λy yd H3 S3 x3 r3 v3 q3=>⟨F,S3,Γ,_,r3,(g.ext Z).ext x3,q3,λz Y H4 D J L v4 O=>?_⟩⟩;obtain⟨B,hS,O⟩:=O;obtain⟨ks,hu,lu⟩:=L.obj a _ hS;have c4:Ext S H D H4:=Z.trans (x3.trans J);have old:(∃key,dkey yd=some key/\QD ((getG B key).getD Y) D)->∃o,DGet H4 a y o/\Q (o.getD z) H4:=by
   rintro⟨key,hk,N⟩;cases e:getG B key with
   |none =>
    rw[e] at N;exact⟨none,.inl ⟨ks,key,.inl hu,bQw (v3.ext J) hk,(dQe lu e).symm⟩,c z Y H4 D c4 L v4 N⟩
   |some d =>
    rw[e] at N;obtain⟨v,hv,rv⟩:=bJp lu e;exact⟨some v,.inl ⟨ks,key,.inl hu,bQw (v3.ext J) hk,hv.symm⟩,c v d H4 D c4 L rv N⟩
  cases yd with
  |non =>
   have j:=v3.ext J;unfold RepV at j;exact .inl ⟨ks,j,.inl hu,c z Y H4 D c4 L v4 O⟩
  |_=>exact .inr (old O)⟩
end
end L2
namespace L2
open PySem
end L2
set_option maxHeartbeats 4000000
namespace L2
open PySem Toy
end L2
set_option maxHeartbeats 1000000
namespace L2
open PySem Toy
end L2
set_option maxHeartbeats 4000000
namespace L2
open PySem Toy
section
variable{α:Type}[DecidableEq α](ok:List α->Bool)
variable{ok}
variable{lt:α->α->Bool}
variable(ok lt) in
end
end L2
namespace Toy
open PySem L2
end Toy
namespace L2
open PySem Toy
end L2
set_option maxHeartbeats 1000000
namespace Toy
open PySem L2
end Toy
namespace L2
open PySem Toy
end L2
namespace L2
open PySem PySem.Spec PyProof.Rows
end L2
set_option maxHeartbeats 4000000
namespace Toy
open PySem L2
end Toy
set_option maxHeartbeats 1000000
namespace L2
open PySem Toy
def tr(ns ms:List Str)(n:Str):Str:=ms.getD (ns.idxOf n) n
theorem eJi{ns ms:List Str}(hl:ms.length=ns.length){n:Str}(hn:n∈ns):∃h:ns.idxOf n<ms.length,tr ns ms n=ms[ns.idxOf n]:=by
 have h:ns.idxOf n<ms.length:=by rw[hl];exact e8 hn
 refine⟨h,?_⟩;unfold tr;rw[am,ag h];rfl
section
variable{ns ms:List Str}(hl:ms.length=ns.length)(nn:ns.Nodup)(nm:ms.Nodup)
include hl nm
include nn in
include nn in
end
abbrev zipK(ns ms:List Str):List (Key×D):=(ns.map (eK:Str->Key)).zip (ms.map D.str)
theorem bZ9:∀(ns ms:List Str) (n:Str),ms.length=ns.length->n∈ns->getG (zipK ns ms) (.inr n)=some (.str (tr ns ms n))
 |[],_,n,_,h=>by cases h
 |x::ns,[],n,h,_=>by cases h
 |x::ns,m::ms,n,h,hn=>by
  by_cases e:x=n
  ·subst e;unfold tr getG zipK;simp
  ·have j:n∈ns:=by
    rcases aM.mp hn with z|z
    ·exact absurd z.symm e
    ·exact z
   have:=bZ9 ns ms n (by simpa using h) j
   have e1:getG (zipK (x::ns) (m::ms)) (.inr n)=getG (zipK ns ms) (.inr n):=by
    have J:¬ ((eK x:Key)=.inr n):=λz=>e (eK.inj z);show((List.find? (λB:Key×D=>decide (B.1=.inr n)) ((eK x,D.str m)::zipK ns ms)).map (·.2))=_;rw[ci,decide_eq_false J];rfl
   have e2:tr (x::ns) (m::ms) n=tr ns ms n:=by
    unfold tr;rw[List.idxOf_cons]
    have:(x==n)=false:=by simpa using e
    rw[this];rfl
   rw[e1,e2,this]
end L2
namespace Toy
open PySem L2
abbrev s_law_called:Stmt:=top 19
theorem sc_law_called:FnScope ["told", "names", "found", "trace", "steps", "chosen", "name", "left"] ["told", "names"] (aQ3 s_law_called):=fsc
def aXl:SpD:=λds S Q=>∃(a:Addr) (us vs:List Str) (o:Option (List (List Str))) (r:List (Nat×Str×Nat)) (l:List (List Str)),ds=[.tup [opT o,.tup (r.map stD++[laD l])],.ref a]/\S a=some (.dk (zipK us vs))/\vs.length=us.length/\(∀s∈r,s.2.1∈us)/\r.length<=60/\(∀ts,o=some ts->ts.length<=130/\∀t∈ts,t.length<=60/\∀x∈t,x∈us)/\Q (.tup [opT (o.map (bq (bq (tr us vs)))),.tup (r.map (λs=>stD (stF (tr us vs) s))++[laD l])]) S
section
variable{P:aE}{w:aQ}{K:ar}{mg:Str->Option ad}{base:aX}{pt cc:Addr}
theorem bZa(T:Tx K mg "_law_called" s_law_called)(B:Bs mg):Df P w K mg base 1 "_law_called" ["told", "names"] (spU K aXl):=by
 refine aZu T sc_law_called (λF=>F.binds λ_ _ _ _ _ _=>us2 λ_ _=>rfl) ?_ λf cdv A outer s H E O=>⟨_,(aQ2 (aXj (dv 0) (bJc rfl (aZ6 (aQw (i:=2) sc_law_called.nd rfl (a4 rfl)) (aZ6 (aQw (i:=3) sc_law_called.nd rfl (a4 rfl)) bQs))))
  (aQ2 (aQb (i:=4) sc_law_called.nd rfl (a4 rfl) (aZt (b:=true) aQ1))
  (aQ2 (bQe d9 rfl (aZ0 (dv 3)) (bJc rfl (aZ6 (aQw (i:=5) sc_law_called.nd rfl (a4 rfl)) (aZ6 (aQw (i:=6) sc_law_called.nd rfl (a4 rfl)) (aZ6 (aQw (i:=7) sc_law_called.nd rfl (a4 rfl)) bQs)))) (aQ4 (aXu (aX7 (dv 4) (aQ0 (aZj (aQ0 (dv 5) (aQ0 (dJv O (dv 1) (dv 6) bQ5) (aQ0 (dv 7) aQ1)))) aQ1)))))
  (aQ2 (aZz (bXk O (dv 2) bQ5) (aQ4 (aQb (i:=2) sc_law_called.nd rfl (a4 rfl) (aQm rfl B.tuple (aQ0 (aQp (N':=["one", "names"]) (oc:=none) (b:=false) [0] [] rfl sc_law_called.nd (λ_ _ _=>aQa ..) (.own (.cap (i:=1) rfl (by decide +kernel) .nil)) (aQh rfl) (aZ0 (dv 2)) (cg_name (i:=0)) (λ_ _ _ _ _=>aQe (i:=0) (nd_ ["one", "names"]) rfl (a4 rfl) (.inr rfl)) (λ_ _ _ _ _=>aQo) aQj (λ_ _ _ _ _ _=>aQi rfl (by exact PD.o (aQm rfl B.tuple (aQ0 (aQp (N':=["name", "names"]) (oc:=none) (b:=false) [0] [] rfl (nd_ ["one", "names"]) (λ_ _ _=>aQa ..) (.own (.cap (i:=1) rfl (by decide +kernel) .nil)) (aQh rfl) (aZ0 (dv 0)) (cg_name (i:=0)) (λ_ _ _ _ _=>aQe (i:=0) (nd_ ["name", "names"]) rfl (a4 rfl) (.inr rfl)) (λ_ _ _ _ _=>aQo) aQj (λ_ _ _ _ _ _=>aQi rfl (by exact PD.o (dZ3 O (dv 1) (dv 0))))) aQ1))))) aQ1)))) aQt)
  (aQ4 (aQl (aZj (aQ0 (dv 2) (aQ0 (aQm rfl B.tuple (aQ0 (dv 4) aQ1)) aQ1))))))))),?_⟩
 ·rintro ds S Q ⟨a,us,vs,o,r,l,rfl,_⟩;rfl
 ·rintro ds S Q ⟨a,us,vs,o,r,l,rfl,hS,hl,O,r60,ho,q⟩;refine⟨rfl,rfl,aQ5 (by decide),λp Y=>?_⟩
  have hpa:a≠p:=λz=>by rw[z,Y] at hS;cases hS
  refine⟨_,rfl,?_⟩;refine aXw (λi Γ S'=>∃(x5 x6 Z:Option D),Γ=[some (.tup [opT o,.tup (r.map stD++[laD l])]),some (.ref a),some (opT o),some (.tup (r.map stD++[laD l])),some (.ref p),x5,x6,Z]/\S' p=some (.lst ((r.map (λs=>stD (stF (tr us vs) s))++[laD l]).take i))/\Kps S S') ⟨none,none,none,rfl,aQ7,Kps.set (λ_ _ e=>e) Y _⟩ ?_ ?_
  ·rintro i x Γ S' N hx ⟨x5,x6,Z,rfl,J,L⟩ hN;have hi:=(aD.mp hx).1;rw[aG,ak] at hi;have lt:((r.map (λs=>stD (stF (tr us vs) s))++[laD l]).take i).length<sizeLine:=Nat.lt_of_le_of_lt (List.length_take_le _ _) (Nat.lt_of_lt_of_le (show i<9999 by simp at hi;omega) (aQ5 (by decide)))
   have j:=L a _ hS
   by_cases h:i<r.length
   ·rw[cU (by rw[ak];exact h),aK,bB] at hx
    obtain⟨s,h1,rfl⟩:=hx;have tk:(r.map (λs=>stD (stF (tr us vs) s))++[laD l]).take (i+1)=(r.map (λs=>stD (stF (tr us vs) s))++[laD l]).take i++[stD (stF (tr us vs) s)]:=by
     rw[cI,cU (by rw[ak];exact h),aK,h1];rfl
    refine⟨trivial,rfl,rfl,⟨_,J⟩,a,_,rfl,j,_,j,_,rfl,?_⟩;rw[bZ9 us vs s.2.1 hl (O s (ao h1))];refine⟨aQ5 (show 3<=9999 by decide),_,J,lt,hN _ _ ⟨_,_,_,rfl,?_,Kps.set L Y _⟩⟩
    rw[aQ7,tk];rfl
   ·have ei:i=r.length:=by simp at hi;omega
    subst ei;have tk:(r.map (λs=>stD (stF (tr us vs) s))++[laD l]).take (r.length+1)=(r.map (λs=>stD (stF (tr us vs) s))++[laD l]).take r.length++[laD l]:=by
     rw[aZ (by simp),cu (by simp),aZ (by simp)]
    rw[bR (by simp),ak,Nat.sub_self] at hx
    cases hx;refine⟨trivial,rfl,rfl,⟨_,J⟩,a,_,rfl,j,_,j,?_⟩;refine⟨aQ5 (show 3<=9999 by decide),_,J,lt,hN _ _ ⟨_,_,_,rfl,?_,Kps.set L Y _⟩⟩
    rw[aQ7,tk];rfl
  rintro Γ S' ⟨x5,x6,Z,rfl,J,L⟩;rw[aZ (by simp)] at J
  have j:=L a _ hS;refine⟨trivial,?_⟩;cases o with
  |none =>
   refine⟨false,rfl,?_⟩;refine ite2 (λh=>nomatch h) λ_=>?_
   exact⟨_,J,aQ5 (show 2<=9999 by decide),aZd L q⟩
  |some ts =>
   obtain⟨h130,he⟩:=ho ts rfl;refine⟨true,rfl,?_⟩;refine ite2 (λ_=>?_) λh=>absurd rfl h;refine⟨_,rfl,aQn (f:=λt=>tupS (t.map (tr us vs))) (λt ht Q q=>⟨t.map D.str,rfl,aQn (f:=λn=>D.str (tr us vs n)) (λn hn Q q=>?_) (aQ5 (by show 0+t.length<=9999;have:=(he t ht).1;omega)) ?_⟩) (aQ5 (by show 0+ts.length<=9999;omega)) ?_⟩
   ·exact⟨zipK us vs,_,_,j,rfl,bZ9 us vs n hl ((he t ht).2 n hn),q⟩
   ·refine⟨_,rfl,?_⟩;rw[a9];have e:(t.map λn=>D.str (tr us vs n))=(t.map (tr us vs)).map D.str:=by rw[a7];rfl
    rw[e];exact q
   ·refine⟨_,rfl,?_⟩;rw[a9];refine⟨_,J,aQ5 (show 2<=9999 by decide),aZd L ?_⟩
    have e:(ts.map λt=>tupS (t.map (tr us vs)))=(ts.map (bq (tr us vs))).map tupS:=by rw[a7];rfl
    rw[e];exact q
end
end Toy
namespace L2
open PySem PySem.Spec PyProof.Rows
section
variable{prog:aE}{w:aQ}{A:aW}{E:ad->ah->Prop}{s:ah}{z ti to j1 j2 t1 t2:Addr}{m:Nat}{us vs:Array ad}{p q:ad}
abbrev tiO(t:Addr):Obj:={cls:=.type "tuple_iterator",data:=.fields #[.ref t,.int 0 0]}
abbrev zt2(h:aX)(a b:Addr):aX:=(h.push (tiO a)).push (tiO b)
abbrev zt3(h:aX)(a b:Addr):aX:=(zt2 h a b).push {cls:=.type "tuple",data:=.seq #[.ref h.objs.size,.ref (h.push (tiO a)).objs.size]}
abbrev zt4(h:aX)(a b:Addr):aX:=(zt3 h a b).push {cls:=.type "tuple",data:=.seq #[.none,.none]}
abbrev zt5(h:aX)(a b:Addr):aX:=(zt4 h a b).push {cls:=.type "zip",data:=.fields #[.none,.bool false,.bool false,.ref (zt2 h a b).objs.size,.ref (zt3 h a b).objs.size]}
theorem eJj(a b:Addr)(us vs:Array ad):Meets (bU.«zip.__new__» ⟨[.type "zip",.ref a,.ref b],[]⟩) (λ_ R s=>(s.heap.IsTuple a us/\s.heap.IsTuple b vs)/\R (.ok (.ret (.ref (zt4 s.heap a b).objs.size))) {s with heap:=zt5 s.heap a b}) :=
 .of_wp λprog w A R s J=>by
  obtain⟨⟨b1,b2⟩,k⟩:=J;obtain⟨B,g,d,j,os⟩:=s;have D:=sub_zip;have N:aX.IsTuple (ah.heap ⟨B,g,d,j,os⟩) a us:=b1;have L:aX.IsTuple (ah.heap ⟨B.push (tiO a),g,d,j,os⟩) b vs:=aX.IsTuple.at b2 λo x=>af _ x
  wp_walk using eR N,eR L
  exact⟨_,rfl,k⟩
theorem dJw{a b:Addr}{R:ad->ah->Prop}(b1:s.heap.IsTuple a us)(b2:s.heap.IsTuple b vs)
  (k:∀ h',IsZip h' (s.heap.objs.size + 4) (s.heap.objs.size + 2) (s.heap.objs.size + 3) .none->dN h' (s.heap.objs.size + 2) (.ref s.heap.objs.size) (.ref (s.heap.objs.size + 1))->dN h' (s.heap.objs.size + 3) .none .none ->
   h'.IsTupleIter s.heap.objs.size a 0->h'.IsTupleIter (s.heap.objs.size+1) b 0->(∀c o,s.heap.get? c=some o->h'.get? c=some o)->R (.ref (s.heap.objs.size+4)) {s with heap:=h'}):aF (aB prog w) A (call (.type "zip") [.ref a,.ref b]) R E s:=by
 refine callType_new F.called_zip (by decide) (F.typeCall_zip_2 _ _) (F.newCall_zip_2 _ _) (λobj=>F.args_object_init_3 obj _ _) F.entry_zip_new (eJj a b us vs) ⟨⟨b1,b2⟩,?_⟩
 have up:∀{h:aX}{o:Obj}{c:Addr}{x:Obj},h.get? c=some x->(h.push o).get? c=some x:=λx=>af _ x;have s1:(s.heap.push (tiO a)).objs.size=s.heap.objs.size+1:=cZ ..;have s2:(zt2 s.heap a b).objs.size=s.heap.objs.size+2:=by rw[cZ,s1]
 have s3:(zt3 s.heap a b).objs.size=s.heap.objs.size+3:=by rw[cZ,s2]
 have s4:(zt4 s.heap a b).objs.size=s.heap.objs.size+4:=by rw[cZ,s3]
 have j:(zt5 s.heap a b).get? (zt4 s.heap a b).objs.size=some _:=aq _ rfl;have B:(zt5 s.heap a b).get? (zt3 s.heap a b).objs.size=some _:=up (aq _ rfl);have D:(zt5 s.heap a b).get? (zt2 s.heap a b).objs.size=some _:=up (up (aq _ rfl));have J:(zt5 s.heap a b).get? (s.heap.push (tiO a)).objs.size=some _:=up (up (up (aq _ rfl)));have L:(zt5 s.heap a b).get? s.heap.objs.size=some _:=up (up (up (up (aq _ rfl))));show _/\_;rw[s2,s3,s4] at j;rw[s1,s2] at D;rw[s3] at B;rw[s1] at J;rw[s4];exact⟨⟨_,j,rfl⟩,k _ j D B ⟨_,L,rfl,rfl⟩ ⟨_,J,rfl,rfl⟩ λc o x=>up (up (up (up (up x))))⟩
end
abbrev itK(k:Bool)(h:aX)(j t:Addr)(m:Nat):Prop:=match k with
 |true=>h.IsListIter j t m
 |false=>h.IsTupleIter j t m
abbrev sqK(k:Bool)(h:aX)(t:Addr)(us:Array ad):Prop:=match k with
 |true=>h.IsList t us
 |false=>h.IsTuple t us
abbrev IsZb(h:aX)(z ti to:Addr)(f0:ad)(b:Bool):Prop:=h.get? z=some {cls:=.type "zip",dict:=none,data:=.fields #[f0,.bool b,.bool false,.ref ti,.ref to],slots:=#[]}
theorem itK.ext{k:Bool}{h h':aX}{j t c:Addr}{m:Nat}(e:itK k h j t m)(x:cR c h h')(n:j≠c):itK k h' j t m:=by
 cases k
 ·exact aX.IsTupleIter.extBut e x.extBut n
 ·exact aX.IsListIter.extBut e x.extBut n
theorem itK.at{k:Bool}{h h':aX}{j t:Addr}{m:Nat}(e:itK k h j t m)(x:∀c o,h.get? c=some o->h'.get? c=some o):itK k h' j t m:=by
 cases k
 all_goals
  obtain⟨o,B,r⟩:=e;exact⟨o,x _ o B,r⟩
theorem itK.at2{k:Bool}{h h':aX}{j t z:Addr}{m:Nat}(e:itK k h j t m)(n:j≠z)(x:∀c o,c≠z->h.get? c=some o->h'.get? c=some o):itK k h' j t m:=by
 cases k
 all_goals
  obtain⟨o,B,r⟩:=e;exact⟨o,x _ o n B,r⟩
theorem sqK.ext{k:Bool}{h h':aX}{t c:Addr}{us:Array ad}(e:sqK k h t us)(x:cR c h h')(n:t≠c):sqK k h' t us:=by
 cases k
 ·exact aX.IsTuple.extBut e x.extBut n
 ·exact aX.IsList.extBut e x.extBut n
section
variable{prog:aE}{w:aQ}{A:aW}{E:ad->ah->Prop}{s:ah}{z ti to j1 j2 t1 t2 T:Addr}{m:Nat}{us vs:Array ad}{p q:ad}{k1 k2:Bool}
theorem aX8{k:Bool}{j t:Addr}{x:ad}{Q:ad->ah->Prop}(hit:itK k s.heap j t m)(ht:sqK k s.heap t us)(hx:us[m]?=some x)
  (hQ:∀h',itK k h' j t (m+1)->cR j s.heap h'->Q x {s with heap:=h'}):aF (aB prog w) A (aV (.ref j)) Q E s:=by
 cases k
 ·exact dZs hit ht hx hQ
 ·exact wpAny_nextOf_list_item hit ht hx hQ
theorem bZb{k:Bool}{j t:Addr}{Q:ad->ah->Prop}(hh:A.handled=none)(hit:itK k s.heap j t m)(ht:sqK k s.heap t us)(hx:us[m]?=none)
  (hE:∀h' e,aX.ExtBut j s.heap h'->(∃o,h'.get? e=some o/\o.cls=.type "StopIteration")->E (.ref e) {s with heap:=h'}):aF (aB prog w) A (aV (.ref j)) Q E s:=by
 cases k
 ·exact eZb hh hit ht hx hE
 ·exact wpAny_nextOf_list_end hh hit ht hx hE
theorem cXv{K:Bool->ah->Prop}{oT:Obj}{b:Bool}(g:IsZb s.heap z ti to (c9 T) b)(gT:s.heap.get? T=some oT)
  (k:∀ha,IsZb ha z ti to (c9 T) true->cR z s.heap ha->K false {s with heap:=ha}):aF (aB prog w) A (bh (.ref z)) K E s:=by
 unfold bh;refine aa (bW g rfl (x:=c9 T) rfl ?_);show aF _ _ (loadIfAlive ((T:Int).toNat)>>=_) _ _ _;rw[bN];refine aa (PySem.W.kdx_alive gT ?_);simp only[Option.isNone_some,bS,if_false];refine aa (bW g rfl (x:=.bool b) rfl ?_);cases b with
 |true =>
  rw[if_neg (show ¬ ((gp true !=gp true)=true) from du)]
  exact ae (k s.heap g (jz _ _))
 |false =>
  rw[if_pos (show(gp false !=gp true)=true from rfl)]
  exact aa (bj g (by simp) λha ga sa=>ae (k ha ga sa))
theorem dJx{u v:ad}{R:ad->ah->Prop}{oT:Obj}{b:Bool}(ap:gK z ti to j1 j2 t1 t2)(g:IsZb s.heap z ti to (c9 T) b)(gT:s.heap.get? T=some oT)(gi:dN s.heap ti (.ref j1) (.ref j2))
  (e1:itK k1 s.heap j1 t1 m) (e2:itK k2 s.heap j2 t2 m) (b1:sqK k1 s.heap t1 us) (b2:sqK k2 s.heap t2 vs) (hu:us[m]?=some u) (hv:vs[m]?=some v)
  (k:∀ h',IsZb h' z ti to (c9 T) true->itK k1 h' j1 t1 (m + 1)->itK k2 h' j2 t2 (m + 1)->dN h' s.heap.objs.size u v ->
   (∀c o,c≠z->c≠j1->c≠j2->s.heap.get? c=some o->h'.get? c=some o)->R (.ref s.heap.objs.size) {s with heap:=h'}) :
  aF (aB prog w) A (bU.«zip.__next__» ⟨[.ref z],[]⟩) (λf s'=>∃y,f=.done (.ret y)/\R y s') E s:=by
 refine aa (m:=field (.ref z) 2) (bW g rfl (x:=.bool false) rfl (aa (m:=field (.ref z) 3) (bW g rfl (x:=.ref ti) rfl (aa (bT gi rfl ?_)))));refine aa (m:=bh (.ref z)) (cXv g gT λY ga sa=>?_);simp only[bS,if_false];refine aa ?_;simp only[List.forIn_toArray,dJ,ik];refine aa (aa (bb (aa (m:=aV (.ref j1)) (aX8 (e1.ext sa ap.i1z) (b1.ext sa ap.l1z) hu λO N j=>ae ?_))));refine ae (aa (aa (bb (aa (m:=aV (.ref j2)) (aX8 ((e2.ext sa ap.i2z).ext j ap.i12.symm) ((b2.ext sa ap.l2z).ext j ap.l2i1) hv λhd L sd=>ae (ae (ae ?_)))))));refine aa (wpAny_newTuple (hsz:=by rw[bn];show 2<=_;decide) (ae ⟨_,rfl,?_⟩))
 have size:hd.objs.size=s.heap.objs.size:=sd.1.trans (j.1.trans sa.1);have up:∀c o,hd.get? c=some o->(hd.push {cls:=.type "tuple",data:=.seq #[u,v]}).get? c=some o:=λc o x=>af _ x;have new:dN (hd.push {cls:=.type "tuple",data:=.seq #[u,v]}) hd.objs.size u v:=aq _ rfl;show R (.ref hd.objs.size) _;rw[size] at new ⊢;exact k _ (up _ _ (sd.extBut _ _ ap.i2z.symm (j.extBut _ _ ap.i1z.symm ga))) ((N.ext sd ap.i12).at up) (L.at up) new λc o J D B x=>up _ _ (sd.extBut _ _ B (j.extBut _ _ D (sa.extBut _ _ J x)))
theorem eJk{R:Fin->ah->Prop}{oT:Obj}{b:Bool}(hh:A.handled=none)(ap:gK z ti to j1 j2 t1 t2)(g:IsZb s.heap z ti to (c9 T) b)(gT:s.heap.get? T=some oT)(gi:dN s.heap ti (.ref j1) (.ref j2))
  (e1:itK k1 s.heap j1 t1 m) (e2:itK k2 s.heap j2 t2 m) (b1:sqK k1 s.heap t1 us) (b2:sqK k2 s.heap t2 vs) (no:us[m]?=none\/vs[m]?=none)
  (k:∀h' e,(∀c o,c≠z->c≠to->c≠j1->c≠j2->s.heap.get? c=some o->h'.get? c=some o)->(∃o,h'.get? e=some o/\o.cls=.type "StopIteration")->E (.ref e) {s with heap:=h'}) :
  aF (aB prog w) A (bU.«zip.__next__» ⟨[.ref z],[]⟩) R E s:=by
 refine aa (m:=field (.ref z) 2) (bW g rfl (x:=.bool false) rfl (aa (m:=field (.ref z) 3) (bW g rfl (x:=.ref ti) rfl (aa (bT gi rfl ?_)))));refine aa (m:=bh (.ref z)) (cXv g gT λO ga sa=>?_);simp only[bS,if_false];refine aa ?_;simp only[List.forIn_toArray,dJ,ik];cases hu:us[m]? with
 |none =>
  exact aa (aa (bb (aa (m:=aV (.ref j1)) (bZb hh (e1.ext sa ap.i1z) (b1.ext sa ap.l1z) hu λJ e j ex=>k J e (λc o D _ B _ x=>j _ _ B (sa.extBut _ _ D x)) ex))))
 |some u =>
  have N:vs[m]?=none:=no.elim (λx=>by rw[hu] at x;cases x) id
  refine aa (aa (bb (aa (m:=aV (.ref j1)) (aX8 (e1.ext sa ap.i1z) (b1.ext sa ap.l1z) hu λJ Y j=>ae ?_))));exact ae (aa (aa (bb (aa (m:=aV (.ref j2)) (bZb hh ((e2.ext sa ap.i2z).ext j ap.i12.symm) ((b2.ext sa ap.l2z).ext j ap.l2i1) N λhd e sd ex=>k hd e (λc o D _ B L x=>sd _ _ L (j.extBut _ _ B (sa.extBut _ _ D x))) ex)))))
theorem dJy{u v:ad}{R:ad->ah->Prop}(ap:gK z ti to j1 j2 t1 t2)(g:IsZb s.heap z ti to .none false)(gi:dN s.heap ti (.ref j1) (.ref j2))(go:dN s.heap to p q)
  (e1:itK k1 s.heap j1 t1 m) (e2:itK k2 s.heap j2 t2 m) (b1:sqK k1 s.heap t1 us) (b2:sqK k2 s.heap t2 vs) (hu:us[m]?=some u) (hv:vs[m]?=some v)
  (k:∀ h',IsZb h' z ti to (c9 s.heap.objs.size) false->itK k1 h' j1 t1 (m + 1)->itK k2 h' j2 t2 (m + 1)->dN h' s.heap.objs.size u v ->
   (∀c o,c≠z->c≠to->c≠j1->c≠j2->s.heap.get? c=some o->h'.get? c=some o)->R (.ref s.heap.objs.size) {s with heap:=h'}) :
  aF (aB prog w) A (bU.«zip.__next__» ⟨[.ref z],[]⟩) (λf s'=>∃y,f=.done (.ret y)/\R y s') E s:=by
 refine aa (m:=field (.ref z) 2) (bW g rfl (x:=.bool false) rfl (aa (m:=field (.ref z) 3) (bW g rfl (x:=.ref ti) rfl (aa (bT gi rfl ?_)))));refine aa (m:=bh (.ref z)) ?_;unfold bh;refine aa (bW g rfl (x:=.none) rfl (ae ?_));simp only[if_true];refine aa (cx (aa (bW g rfl (x:=.ref to) rfl (aa (bj g (by simp) λha ga sa=>?_)))))
 have ga':IsZb ha z ti to .ellipsis false:=ga;refine aa ?_;simp only[iU,List.zipIdx_nil,dJ,ik];refine aa (aa (gI (aa (m:=aV (.ref j1)) (aX8 (e1.ext sa ap.i1z) (b1.ext sa ap.l1z) hu λhb eb j=>ae ?_))));have ob:dN hb to p q:=j.extBut _ _ ap.TOi1 (sa.extBut _ _ ap.TOz go);refine aa (bT ob rfl (aa (gL ob λhc oc sc=>aa (fm (ae ?_)))));have O:dN hc to u q:=oc;refine aa (aa (gI (aa (m:=aV (.ref j2)) (aX8 (((e2.ext sa ap.i2z).ext j ap.i12.symm).ext sc ap.TOi2.symm) (((b2.ext sa ap.l2z).ext j ap.l2i1).ext sc ap.l2TO) hv λhd ed sd=>ae ?_))));have od:dN hd to u q:=sd.extBut _ _ ap.TOi2 O;refine aa (bT od rfl (aa (gL od λhe oe B=>aa (fm (ae (ae ?_))))));have N:dN he to u v:=oe;refine aa (bT N rfl (aa (wpAny_newTuple ?_)));have size:he.objs.size=s.heap.objs.size:=B.1.trans (sd.1.trans (sc.1.trans (j.1.trans sa.1)));have ge:IsZb he z ti to .ellipsis false:=B.extBut _ _ ap.TOz.symm (sd.extBut _ _ ap.i2z.symm (sc.extBut _ _ ap.TOz.symm (j.extBut _ _ ap.i1z.symm ga')));have stay:∀c o,c≠z->c≠to->c≠j1->c≠j2->s.heap.get? c=some o->he.get? c=some o:=λc o L J Z Y x=>B.extBut _ _ J (sd.extBut _ _ Y (sc.extBut _ _ J (j.extBut _ _ Z (sa.extBut _ _ L x))));have f1:itK k1 he j1 t1 (m+1):=((eb.ext sc ap.TOi1.symm).ext sd ap.i12).ext B ap.TOi1.symm;have f2:itK k2 he j2 t2 (m+1):=ed.ext B ap.TOi2.symm;have zl:z<he.objs.size:=aA ge;refine aa (m:=fC (.ref z) (.ref he.objs.size)) ?_;unfold fC;have gf:IsZb (he.push {cls:=.type "tuple",data:=.seq #[u,v]}) z ti to .ellipsis false:=af _ ge;refine aa (bj gf (by simp) λhg gg sg=>?_)
 have gg':IsZb hg z ti to (c9 he.objs.size) false:=gg;refine bj gg' (by simp) λhh gh sh=>?_
 have D:IsZb hh z ti to (c9 he.objs.size) false:=gh;have lift:∀c o,c≠z->he.get? c=some o->hh.get? c=some o:=λc o n x=>sh.extBut _ _ n (sg.extBut _ _ n (af _ x));have new:dN hh he.objs.size u v:=sh.extBut _ _ (Nat.ne_of_gt zl) (sg.extBut _ _ (Nat.ne_of_gt zl) (aq _ rfl));rw[size] at D new;refine ae ⟨_,rfl,?_⟩;show R (.ref he.objs.size) _;rw[size];exact k hh D (f1.at2 ap.i1z lift) (f2.at2 ap.i2z lift) new λc o L J Z Y x=>lift c o L (stay c o L J Z Y x)
theorem eJl{R:Fin->ah->Prop}(hh:A.handled=none)(ap:gK z ti to j1 j2 t1 t2)(g:IsZb s.heap z ti to .none false)(gi:dN s.heap ti (.ref j1) (.ref j2))(go:dN s.heap to p q)
  (e1:itK k1 s.heap j1 t1 m) (e2:itK k2 s.heap j2 t2 m) (b1:sqK k1 s.heap t1 us) (b2:sqK k2 s.heap t2 vs) (no:us[m]?=none\/vs[m]?=none)
  (k:∀h' e,(∀c o,c≠z->c≠to->c≠j1->c≠j2->s.heap.get? c=some o->h'.get? c=some o)->(∃o,h'.get? e=some o/\o.cls=.type "StopIteration")->E (.ref e) {s with heap:=h'}) :
  aF (aB prog w) A (bU.«zip.__next__» ⟨[.ref z],[]⟩) R E s:=by
 refine aa (m:=field (.ref z) 2) (bW g rfl (x:=.bool false) rfl (aa (m:=field (.ref z) 3) (bW g rfl (x:=.ref ti) rfl (aa (bT gi rfl ?_)))));refine aa (m:=bh (.ref z)) ?_;unfold bh;refine aa (bW g rfl (x:=.none) rfl (ae ?_));simp only[if_true];refine aa (cx (aa (bW g rfl (x:=.ref to) rfl (aa (bj g (by simp) λha ga sa=>?_)))))
 have L:IsZb ha z ti to .ellipsis false:=ga;refine aa ?_;simp only[iU,List.zipIdx_nil,dJ,ik];have last:∀(h2:aX) (e:Addr),IsZb h2 z ti to .ellipsis false->(∀c o,c≠z->c≠to->c≠j1->c≠j2->s.heap.get? c=some o->h2.get? c=some o)->(∃o,h2.get? e=some o/\o.cls=.type "StopIteration")->∀O,cR z h2 O->E (.ref e) {s with heap:=O}:=λh2 e g2 st ⟨o,ho,J⟩ O s3 =>
  have ne:e≠z:=λx=>by subst x;rw[g2] at ho;cases ho;simp at J
  k O e (λc o B Z D Y x=>s3.extBut _ _ B (st c o B Z D Y x)) ⟨o,s3.extBut _ _ ne ho,J⟩
 cases hu:us[m]? with
 |none =>
  refine aa (aa (gI (aa (m:=aV (.ref j1)) (bZb hh (e1.ext sa ap.i1z) (b1.ext sa ap.l1z) hu λN e j ex=>?_))));have gb:IsZb N z ti to .ellipsis false:=j _ _ ap.i1z.symm L;exact bj gb (by simp) λJ _ sc=>last N e gb (λc o B _ D _ x=>j _ _ D (sa.extBut _ _ B x)) ex J sc
 |some u =>
  have hv:vs[m]?=none:=no.elim (λx=>by rw[hu] at x;cases x) id
  refine aa (aa (gI (aa (m:=aV (.ref j1)) (aX8 (e1.ext sa ap.i1z) (b1.ext sa ap.l1z) hu λN eb j=>ae ?_))));have ob:dN N to p q:=j.extBut _ _ ap.TOi1 (sa.extBut _ _ ap.TOz go);refine aa (bT ob rfl (aa (gL ob λJ oc sc=>aa (fm (ae ?_)))));refine aa (aa (gI (aa (m:=aV (.ref j2)) (bZb hh (((e2.ext sa ap.i2z).ext j ap.i12.symm).ext sc ap.TOi2.symm) (((b2.ext sa ap.l2z).ext j ap.l2i1).ext sc ap.l2TO) hv λhd e sd ex=>?_))));have gd:IsZb hd z ti to .ellipsis false:=sd _ _ ap.i2z.symm (sc.extBut _ _ ap.TOz.symm (j.extBut _ _ ap.i1z.symm L));exact bj gd (by simp) λhe _ se=>last hd e gd (λc o B Z D Y x=>sd _ _ Y (sc.extBut _ _ Z (j.extBut _ _ D (sa.extBut _ _ B x)))) ex he se
end
end L2
set_option maxHeartbeats 2000000
namespace PySem
namespace F
theorem zk_ga:entryFor table "zip.__getattribute__"=some bU.«object.__getattribute__» :=
 entryFor_alias (id':="object.__getattribute__") (by kernel_rfl) (by first|rfl|decide +kernel) (by decide +kernel) (by kernel_rfl)
theorem zk_keys:ja (.type "zip") "keys"=pure none:=by
 rw[gN,eZ];kernel_rfl
theorem zk_hook:ja (.type "zip") "__getattr__"=pure none:=by
 rw[gN,eZ];kernel_rfl
end F
theorem dQi(z:Addr)(fs:Array ad)(u:Tok):Meets (bU.«object.__getattribute__» ⟨[.ref z,.str "keys" u],[]⟩) (λA R s =>
  s.heap.get? z=some {cls:=.type "zip",dict:=none,data:=.fields fs,slots:=#[]}/\raisesAttr (.ref z) "keys" A R s):=by
 refine .of_wp λprog w A R s hs=>?_;obtain⟨h,g,d,t,os⟩:=s;obtain⟨B,j⟩:=hs;have ty:(⟨h,g,d,t,os⟩:ah).TypeIs (.ref z) "zip":=⟨_,B,rfl⟩;have f4:=F.zk_keys;unfold bU.«object.__getattribute__»
 repeat (any_goals (first|assumption|wp_step))
 exact wpAny_raiseAttrError j.1 j.2 (attrMsg_fits (by decide +kernel) (by size_fits))
theorem dJz{prog:aE}{w:aQ}{A:aW}{E:ad->ah->Prop}{s:ah}{z:Addr}{fs:Array ad}{Q:Option ad->ah->Prop}(hA:A.handled=none)
  (hz:s.heap.get? z=some {cls:=.type "zip",dict:=none,data:=.fields fs,slots:=#[]})
  (q:∀h' tk,(∀b o,s.heap.get? b=some o->h'.get? b=some o)->Q none {s with heap:=h',toks:=tk}):aF (aB prog w) A (getAttr? (.ref z) "keys") Q E s:=by
 obtain⟨h,g,d,t,os⟩:=s;have ty:∀j,(⟨h,g,d,j,os⟩:ah).TypeIs (.ref z) "zip":=λ_=>⟨_,hz,rfl⟩;have f1:=sub_AttributeError;have J:=F.slot_zip_getattribute.lookup;have f4:=F.slot_zip_getattribute.bind (.ref z);have f5:=F.zk_hook;unfold getAttr? getAttrBy? getAttrBy
 repeat (any_goals (first|assumption|exact ty _|((with_reducible show aF _ _ (call (ad.builtin "zip.__getattribute__") _ _) _ _ _);refine call_meets F.slot_zip_getattribute (ty _) F.zk_ga (F.args_zip_getattribute_2 _ _) (dQi z fs _) ⟨hz,by simp[hA],λh' tk e B=>?_⟩)|wp_step))
 obtain⟨j,D,he⟩:=B.there;show aF _ _ (getattributeRaised _ _ _ _ _ _ _) _ _ _;unfold getattributeRaised
 repeat (any_goals (first|assumption|wp_step))
 exact q _ _ B.keeps
end PySem
namespace L2
open PySem PySem.Spec PyProof.Rows
theorem zk_entry:entryFor table "dict.update.loop"=some bU.«dict.update.loop»:=entryFor_of_tree (by kernel_rfl)
theorem zk_plain:plainId "dict.update.loop"=true:=by decide +kernel
structure ZsK(z ti to j1 j2 t1 t2 d:Addr)(k1 k2:Bool)(us vs:Array ad)(i:Nat)(h:aX):Prop where
 pr:dN h ti (.ref j1) (.ref j2)
 e1:itK k1 h j1 t1 i
 e2:itK k2 h j2 t2 i
 b1:sqK k1 h t1 us
 b2:sqK k2 h t2 vs
 st:(IsZb h z ti to .none false/\∃p q,dN h to p q)\/∃(T:Addr) (b:Bool) (oT:Obj),IsZb h z ti to (c9 T) b/\h.get? T=some oT/\T≠z/\T≠to/\T≠j1/\T≠j2/\T≠d
theorem sqK.at{k:Bool}{h h':aX}{t:Addr}{us:Array ad}(e:sqK k h t us)(x:∀o,h.get? t=some o->h'.get? t=some o):sqK k h' t us:=by
 cases k
 all_goals
  obtain⟨o,j,r⟩:=e;exact⟨o,x o j,r⟩
section
variable{prog:aE}{w:aQ}{A:aW}{E:ad->ah->Prop}{s:ah}{z ti to j1 j2 t1 t2 d:Addr}{i:Nat}{us vs:Array ad}{k1 k2:Bool}
theorem ZsK.ty(st:ZsK z ti to j1 j2 t1 t2 d k1 k2 us vs i s.heap):s.TypeIs (.ref z) "zip":=by
 rcases st.st with⟨g,_⟩|⟨_,_,_,g,_⟩
 ·exact⟨_,g,rfl⟩
 ·exact⟨_,g,rfl⟩
theorem eQ0{u v:ad}{R:Option ad->ah->Prop}(ap:gK z ti to j1 j2 t1 t2)(dl:d<s.heap.objs.size)(st:ZsK z ti to j1 j2 t1 t2 d k1 k2 us vs i s.heap)(hu:us[i]?=some u)(hv:vs[i]?=some v)
  (k:∀h',ZsK z ti to j1 j2 t1 t2 d k1 k2 us vs (i+1) h'->dN h' s.heap.objs.size u v->(∀c o,c≠z->c≠to->c≠j1->c≠j2->s.heap.get? c=some o->h'.get? c=some o)->R (some (.ref s.heap.objs.size)) {s with heap:=h'}) :
  aF (aB prog w) A (eL (.ref z)) R E s:=by
 have ty:=st.ty;have Y:j1<s.heap.objs.size:=by
  have:=st.e1
  cases k1 <;> (obtain⟨o,Z,_⟩:=this;exact aA Z)
 have O:j2<s.heap.objs.size:=by
  have:=st.e2
  cases k2 <;> (obtain⟨o,Z,_⟩:=this;exact aA Z)
 have body:aF (aB prog w) A.in1 (bU.«zip.__next__» ⟨[.ref z],[]⟩) (λf s'=>∃y,f=.done (.ret y)/\R (some y) s') (λe s'=>False) s:=by
  rcases st.st with⟨g,p,q,go⟩|⟨T,b,oT,g,gT,n1,n2,n3,n4,n5⟩
  ·have N:to<s.heap.objs.size:=aA go;have lz:z<s.heap.objs.size:=aA g;refine dJy ap g st.pr go st.e1 st.e2 st.b1 st.b2 hu hv λh' L J D B j=>k h' ⟨j _ _ ap.TIz ap.TITO ap.TIi1 ap.TIi2 st.pr,J,D,st.b1.at λo=>j _ o ap.l1z ap.l1TO ap.l1i1 ap.l1i2,st.b2.at λo=>j _ o ap.l2z ap.l2TO ap.l2i1 ap.l2i2,.inr ⟨_,_,_,L,B,Nat.ne_of_gt lz,Nat.ne_of_gt N,Nat.ne_of_gt Y,Nat.ne_of_gt O,Nat.ne_of_gt dl⟩⟩ B j
  ·refine dJx ap g gT st.pr st.e1 st.e2 st.b1 st.b2 hu hv λh' L J D B j=>k h' ⟨j _ _ ap.TIz ap.TIi1 ap.TIi2 st.pr,J,D,st.b1.at λo=>j _ o ap.l1z ap.l1i1 ap.l1i2,st.b2.at λo=>j _ o ap.l2z ap.l2i1 ap.l2i2,.inr ⟨_,_,_,L,j _ _ n1 n3 n4 gT,n1,n2,n3,n4,n5⟩⟩ B λc o m1 _ m3 m4=>j c o m1 m3 m4
 exact aa (iD (cK (name:=Str.ofString "__next__") ty F.slot_zip_next (cD F.slot_zip_next ty F.entry_zip_next (cj body (λf s' ⟨y,e,r⟩=>⟨y,e,ae r⟩) λ_ _ z=>z.elim) (F.args_zip_next_1 _))))
theorem eQ1{R:Option ad->ah->Prop}(hh:A.handled=none)(ap:gK z ti to j1 j2 t1 t2)(st:ZsK z ti to j1 j2 t1 t2 d k1 k2 us vs i s.heap)(no:us[i]?=none\/vs[i]?=none)
  (k:∀h',(∀c o,c≠z->c≠to->c≠j1->c≠j2->s.heap.get? c=some o->h'.get? c=some o)->R none {s with heap:=h'}):aF (aB prog w) A (eL (.ref z)) R E s:=by
 have ty:=st.ty;have body:aF (aB prog w) A.in1 (bU.«zip.__next__» ⟨[.ref z],[]⟩) (λf s'=>False) (λe s'=>∃j h',e=.ref j/\s'={s with heap:=h'}/\(∀c o,c≠z->c≠to->c≠j1->c≠j2->s.heap.get? c=some o->h'.get? c=some o)/\∃o,h'.get? j=some o/\o.cls=.type "StopIteration") s:=by
  rcases st.st with⟨g,p,q,go⟩|⟨T,b,O,g,gT,_⟩
  ·exact eJl (by simp[hh]) ap g st.pr go st.e1 st.e2 st.b1 st.b2 no λh' e x y=>⟨e,h',rfl,rfl,x,y⟩
  ·exact eJk (by simp[hh]) ap g gT st.pr st.e1 st.e2 st.b1 st.b2 no λh' e x y=>⟨e,h',rfl,rfl,x,y⟩
 refine aa (iD (cK (name:=Str.ofString "__next__") ty F.slot_zip_next (cD F.slot_zip_next ty F.entry_zip_next (cj body (λ_ _ z=>z.elim) λe s' ⟨j,h',N,L,J,o,D,B⟩=>?_) (F.args_zip_next_1 _))));subst N L;exact aa (iQ (T:="StopIteration") (b:=true) ⟨o,D,B⟩ isSubtype_stop (ae (k _ J)))
theorem eQ2{L:List (Key×ad)}(hh:A.handled=none)(ap:gK z ti to j1 j2 t1 t2)(dn:d≠z/\d≠ti/\d≠to/\d≠j1/\d≠j2/\d≠t1/\d≠t2)(hL:∀(j:Nat) (u v:ad),us[j]?=some u->vs[j]?=some v->∃k,L[j]?=some (k,v)/\(aQd prog w).is k u=true)(hn:∀(j:Nat),us[j]?=none\/vs[j]?=none->L.length<=j){R:Result->ah->Prop} :
  ∀(n i:Nat) (s:ah) (kvs:List (Key×ad)),L.length-i=n->ZsK z ti to j1 j2 t1 t2 d k1 k2 us vs i s.heap->s.heap.DictOf (aQd prog w) d kvs->kvs.length+n<=sizeLine ->
  (∀h' tk,h'.DictOf (aQd prog w) d ((L.drop i).foldl (λm p=>stored m p.1 p.2) kvs)->(∀c o,c≠z->c≠to->c≠j1->c≠j2->c≠d->s.heap.get? c=some o->h'.get? c=some o)->R (.ok (.ret .none)) {s with heap:=h',toks:=tk}) ->
  eN (aB prog w) A (.builtin "dict.update.loop" ⟨[.ref d,.ref z,c9 i,.none],[]⟩) R s:=by
 intro n
 induction n with
 |zero =>
  intro i s kvs hi st hd hz hR;refine cQ zk_entry ?_;rw[bJ zk_plain _];show aF _ A.in1 (eL (.ref z)>>=_) _ _ s;have no:us[i]?=none\/vs[i]?=none:=by
   cases hu:us[i]? with
   |none=>exact .inl rfl
   |some u =>
    cases hv:vs[i]? with
    |none=>exact .inr rfl
    |some v =>
     obtain⟨k,e,_⟩:=hL i u v hu hv
     have:=(aD.mp e).1
     omega
  refine aa (eQ1 (by simp[hh]) ap st no λh' x=>aa (ae (ae ?_)))
  have e:=hR h' s.toks;rw[bH (by omega)] at e
  refine e ?_ λc o Y O N J _=>x c o Y O N J;obtain⟨o,es,ep,ho,r⟩:=hd;exact⟨o,es,ep,x d o dn.1 dn.2.2.1 dn.2.2.2.1 dn.2.2.2.2.1 ho,r⟩
 |succ n ih =>
  intro i s kvs hi st hd hz hR;refine cQ zk_entry ?_;rw[bJ zk_plain _];show aF _ A.in1 (eL (.ref z)>>=_) _ _ s;obtain⟨u,hu⟩:∃u,us[i]?=some u:=by
   cases hu:us[i]? with
   |none=>have:=hn i (.inl hu);omega
   |some u=>exact⟨u,rfl⟩
  obtain⟨v,hv⟩:∃v,vs[i]?=some v:=by
   cases hv:vs[i]? with
   |none=>have:=hn i (.inr hv);omega
   |some v=>exact⟨v,rfl⟩
  obtain⟨k,hk,his⟩:=hL i u v hu hv;have dl:d<s.heap.objs.size:=by obtain⟨o,es,ep,ho,_⟩:=hd;exact aA ho
  refine aa (eQ0 ap dl st hu hv λh1 B pr x=>?_);have hd1:h1.DictOf (aQd prog w) d kvs:=by
   obtain⟨o,es,ep,ho,r⟩:=hd;exact⟨o,es,ep,x d o dn.1 dn.2.2.1 dn.2.2.2.1 dn.2.2.2.2.1 ho,r⟩
  refine aa (bb ?_);have ty:ah.TypeIs {s with heap:=h1} (.ref s.heap.objs.size) "tuple":=⟨_,pr,rfl⟩
  refine aa (eG ?_);unfold bU.Dict.pairItems;refine aa (fw ty ?_);rw[if_pos (by decide)]
  refine aa (bT pr rfl (ae ?_));show aF _ A.in1 (ft [u,v] (dictSet d u v)) _ _ _;refine bb (wpAny_dictSet_pairs his hd1 (λh2 hd2 D=>ae ⟨da zk_plain _,?_⟩) (by omega))
  have st2:ZsK z ti to j1 j2 t1 t2 d k1 k2 us vs (i + 1) h2:=⟨D.extBut _ _ dn.2.1.symm B.pr,B.e1.ext D dn.2.2.2.1.symm,B.e2.ext D dn.2.2.2.2.1.symm,B.b1.ext D dn.2.2.2.2.2.1.symm,B.b2.ext D dn.2.2.2.2.2.2.symm,by
   rcases B.st with⟨g,p,q,go⟩|⟨T,b,oT,g,gT,Y,O,N,J,Z⟩
   ·exact .inl ⟨D.extBut _ _ dn.1.symm g,p,q,D.extBut _ _ dn.2.2.1.symm go⟩
   ·exact .inr ⟨T,b,oT,D.extBut _ _ dn.1.symm g,D.extBut _ _ Z gT,Y,O,N,J,Z⟩⟩
  have le:i<L.length:=by omega
  refine ih (i+1) _ (stored kvs k v) (by omega) st2 hd2 (by have:=stored_length_le kvs k v;omega) λh' tk e y=>hR h' tk ?_ λc o Y O N J Z g=>y c o Y O N J Z (D.extBut _ _ Z (x c o Y O N J g))
  rw[cv le];have ee:L[i]=(k,v):=by
   rw[ag le] at hk;exact aR hk
  rw[ee];exact e
theorem eQ3{L:List (Key×ad)}{p q:ad}{Q:ad->ah->Prop}(hh:A.handled=none)(ap:gK z ti to j1 j2 t1 t2)(g:IsZb s.heap z ti to .none false)(go:dN s.heap to p q)(gi:dN s.heap ti (.ref j1) (.ref j2))(e1:itK k1 s.heap j1 t1 0)(e2:itK k2 s.heap j2 t2 0)(b1:sqK k1 s.heap t1 us)(b2:sqK k2 s.heap t2 vs)
  (hL:∀(j:Nat) (u v:ad),us[j]?=some u->vs[j]?=some v->∃k,L[j]?=some (k,v)/\(aQd prog w).is k u=true) (hn:∀(j:Nat),us[j]?=none\/vs[j]?=none->L.length<=j) (hz:L.length<=sizeLine)
  (k:∀h' tk d,s.heap.objs.size<=d->h'.DictOf (aQd prog w) d (L.foldl (λm p=>stored m p.1 p.2) [])->(∀c o,c≠z->c≠to->c≠j1->c≠j2->s.heap.get? c=some o->h'.get? c=some o)->Q (.ref d) {s with heap:=h',toks:=tk}) :
  aF (aB prog w) A (call (.type "dict") [.ref z]) Q E s:=by
 refine callType_codes (Q₁:=λobj s1=>obj=.ref s.heap.objs.size/\s1={s with heap:=s.heap.push {cls:=.type "dict",data:=.dict #[]}}) F.kt_called_dict (F.kt_typeCall_dict_1 _) F.entry_dict_init (kt_code_dict_new _ ⟨rfl,rfl⟩) ?_
 rintro obj s1 ⟨rfl,rfl⟩;have new:(s.heap.push {cls:=.type "dict",data:=.dict #[]}).DictOf (aQd prog w) s.heap.objs.size []:=aX.DictOf.new s.heap;refine⟨new.typeIs,F.args_dict_init_2 _ _,?_⟩;unfold bU.«dict.__init__» bU.Dict.selfAndRest;refine aa (aa (wpAny_notOrdered_dict new.typeIs ?_));refine ae ?_;have up:∀c o,s.heap.get? c=some o->(s.heap.push {cls:=.type "dict",data:=.dict #[]}).get? c=some o:=λc o x=>af _ x;show aF _ _ (iZ "dict.__init__" s.heap.objs.size (.ref z) [] .none) _ _ _;unfold iZ;have ty:ah.TypeIs {s with heap:=s.heap.push {cls:=.type "dict",data:=.dict #[]}} (.ref z) "zip":=⟨_,up _ _ g,rfl⟩
 refine aa (fw ty ?_);rw[if_pos (by decide)]
 refine aa (dJz (by simp[hh]) (up _ _ g) λh1 tk x=>?_)
 rw[if_pos (show(none:Option ad).isNone=true from rfl)]
 have kp:∀c o,s.heap.get? c=some o->h1.get? c=some o:=λc o e=>x c o (up c o e);refine aa (cx (aa (wpAny_pyIter_zip (kp _ _ g) ?_)));have nd:∀c o,s.heap.get? c=some o->s.heap.objs.size≠c:=λc o e=>Nat.ne_of_gt (aA e);have J:∀{k:Bool}{j t:Addr}{m:Nat},itK k s.heap j t m->s.heap.objs.size≠j:=λ{k j t m} e=>by
  cases k <;> (obtain⟨o,B,_⟩:=e;exact nd _ _ B)
 have es:∀{k:Bool}{t:Addr}{us:Array ad},sqK k s.heap t us->s.heap.objs.size≠t:=λ{k t us} e=>by
  cases k <;> (obtain⟨o,B,_⟩:=e;exact nd _ _ B)
 refine ae ⟨da zk_plain _,?_⟩;refine eQ2 (L:=L) (by simp[hh]) ap ⟨nd _ _ g,nd _ _ gi,nd _ _ go,J e1,J e2,es b1,es b2⟩ hL hn L.length 0 _ [] rfl ⟨kp _ _ gi,e1.at kp,e2.at kp,b1.at (kp _),b2.at (kp _),.inl ⟨kp _ _ g,_,_,kp _ _ go⟩⟩ ?_ (by simpa using hz) λh' D hd y=>?_
 ·obtain⟨o,es,ep,B,r⟩:=new;exact⟨o,es,ep,x _ _ B,r⟩
 ·exact⟨rfl,k h' D _ (Nat.le_refl _) hd λc o Z Y O N e=>y c o Z Y O N (nd _ _ e).symm (kp c o e)⟩
end
def ZNew(k1 k2:Bool):Prop:=∀{prog:aE}{w:aQ}{A:aW}{E:ad->ah->Prop}{s:ah}{a b:Addr}{us vs:Array ad}{R:ad->ah->Prop},sqK k1 s.heap a us->sqK k2 s.heap b vs ->
 (∀ h',IsZb h' (s.heap.objs.size + 4) (s.heap.objs.size + 2) (s.heap.objs.size + 3) .none false->dN h' (s.heap.objs.size + 2) (.ref s.heap.objs.size) (.ref (s.heap.objs.size + 1))->dN h' (s.heap.objs.size + 3) .none .none ->
  itK k1 h' s.heap.objs.size a 0->itK k2 h' (s.heap.objs.size+1) b 0->(∀c o,s.heap.get? c=some o->h'.get? c=some o)->R (.ref (s.heap.objs.size+4)) {s with heap:=h'})->aF (aB prog w) A (call (.type "zip") [.ref a,.ref b]) R E s
theorem fZ0:ZNew false false:=λb1 b2 k=>dJw b1 b2 k
def SqB(k:Bool)(K:Fg)(H:Hp)(a:Addr)(xs:List V):Prop:=match k with
 |true=>SqL K H a xs
 |false=>SqT K H a xs
section
variable{X:Cx}{K:Fg}{k1 k2:Bool}
theorem Inv.sqB{k:Bool}{pins:List (Addr×Obj)}{σ:St}{H:Hp}{s:ah}{a:Addr}{xs:List V}(I:Inv X pins σ H s)(h:SqB k X.K H a xs):∃its:List ad,Vals xs its/\sqK k s.heap a its.toArray/\xs.length<=sizeLine/\a<s.heap.objs.size:=by
 cases k
 ·obtain⟨its,r,p,z⟩:=I.tuple h;obtain⟨o,e,_⟩:=id p;exact⟨its,r,p,z,aA e⟩
 ·obtain⟨its,r,p,z⟩:=I.list h;obtain⟨o,e,_⟩:=id p.isList;exact⟨its,r,p.isList,z,aA e⟩
theorem zip_arg{e f:Expr}{ta:TA}{p pos pos':Pos}{pins:List (Addr×Obj)}{s:ah}{σ:St}{H:Hp}{Q:List ad->ah->Prop}{Kt:Addr->Addr->List V->List V->Hp->Prop}(nw:ZNew k1 k2)(hg:Gl X "zip")(hm:X.mg "zip"=none)(ha:PA X [e,f] ta)(I:Inv X pins σ H s)
  (h:ta σ H λvs H1=>∃a b xs ys,vs=[.ref a,.ref b]/\SqB k1 X.K H1 a xs/\SqB k2 X.K H1 b ys/\Kt a b xs ys H1)
  (go:∀ (s1:ah) (H1:Hp) (a b:Addr) (xs ys:List V) (its jts:List ad) (h':aX),Inv X pins σ H1 s1->Kt a b xs ys H1->Vals xs its->Vals ys jts->gK (s1.heap.objs.size + 4) (s1.heap.objs.size + 2) (s1.heap.objs.size + 3) s1.heap.objs.size (s1.heap.objs.size + 1) a b ->
   IsZb h' (s1.heap.objs.size+4) (s1.heap.objs.size+2) (s1.heap.objs.size+3) .none false->dN h' (s1.heap.objs.size+2) (.ref s1.heap.objs.size) (.ref (s1.heap.objs.size+1))->dN h' (s1.heap.objs.size+3) .none .none ->
   itK k1 h' s1.heap.objs.size a 0->itK k2 h' (s1.heap.objs.size+1) b 0->sqK k1 h' a its.toArray->sqK k2 h' b jts.toArray->xs.length<=sizeLine->(∀c o,s1.heap.get? c=some o->h'.get? c=some o)->Q [.ref (s1.heap.objs.size+4)] {s1 with heap:=h'})
  (hz:az [.Call (.Name "zip" p) [e,f] [] pos'] X.env=(false,eval (.Call (.Name "zip" p) [e,f] [] pos') X.env)::az [] X.env:=by rfl) (hs:az [e,f] X.env=[(false,eval e X.env),(false,eval f X.env)]:=by rfl) (hs2:az [f] X.env=[(false,eval f X.env)]:=by rfl) :
  aF (aB X.prog X.w) X.A (spliced (cq pos (az [.Call (.Name "zip" p) [e,f] [] pos'] X.env))) Q X.xe s:=by
 rw[hz];refine eM ?_;refine Call_ (ld_blt I hg hm PyProof.Rows.boot_zip (dQ (thn (ha pos' pins s σ H _ I h) λus s1 ⟨vs,H1,L,r1,q1⟩=>?_) (by rw[hs,hs2]) (by rw[hs2];rfl)))
 obtain⟨a,b,xs,ys,rfl,J,D,q⟩:=q1;cases r1 with
 |cons r rr =>
  cases rr with
  |cons r' rr =>
   cases rr;cases r;cases r';obtain⟨its,rv,N,O,l1⟩:=L.sqB J;obtain⟨jts,B,p2,z2,l2⟩:=L.sqB D;exact nw N p2 λh' x1 x2 x3 Z Y j=>fR (go s1 H1 a b xs ys its jts h' L q rv B (zipApart_new l1 l2) x1 x2 x3 Z Y (N.at λo=>j _ o) (p2.at λo=>j _ o) O j)
def tDz(k1 k2:Bool)(K:Fg)(ta:TA):TE:=fun σ H Q=>ta σ H λvs H1=>∃(a b:Addr) (xs ys:List V),vs=[.ref a,.ref b]/\SqB k1 K H1 a xs/\SqB k2 K H1 b ys/\∃ks:List Key,xs=ks.map kV/\ks.Nodup/\ks.length=ys.length/\∀p,H1 p=none->Q (.ref p) (upd H1 p (.dK (ks.zip ys)))
theorem dZ7:∀{ks:List Key}{ys:List V}{jts:List ad},Vals ys jts->KV (ks.zip ys) (ks.zip jts)
 |[],_,_,_=>by rw[ez,ez];exact .nil
 |k::ks,_,_,.nil=>by rw[dz,dz];exact .nil
 |k::ks,_,_,.cons r j=>.cons ⟨rfl,r⟩ (dZ7 j)
theorem eQ4{e f:Expr}{ta:TA}{p0 p pos pos':Pos}(nw:ZNew k1 k2)(hg0:Gl X "dict")(hm0:X.mg "dict"=none)(hg:Gl X "zip")(hm:X.mg "zip"=none)(ha:PA X [e,f] ta)(hc:X.calm=true:=by rfl)
  (hz:az [.Call (.Name "zip" p) [e,f] [] pos'] X.env=(false,eval (.Call (.Name "zip" p) [e,f] [] pos') X.env)::az [] X.env:=by rfl) (hs:az [e,f] X.env=[(false,eval e X.env),(false,eval f X.env)]:=by rfl) (hs2:az [f] X.env=[(false,eval f X.env)]:=by rfl)
  (hpl:(cq pos (az [] X.env)).any (·.1)=false:=by rfl):PE X (.Call (.Name "dict" p0) [.Call (.Name "zip" p) [e,f] [] pos'] [] pos) (tDz k1 k2 X.K ta):=by
 intro pins s σ H Q I h;refine eO (ld_blt I hg0 hm0 PyProof.Rows.boot_dict ?_);refine dQ (zip_arg (Kt:=λa b xs ys H1=>∃ks:List Key,xs=ks.map kV/\ks.Nodup/\ks.length=ys.length/\∀p,H1 p=none->Q (.ref p) (upd H1 p (.dK (ks.zip ys)))) nw hg hm ha I h (λs1 H1 a b xs ys its jts h' N q rv B ap Z x2 x3 x4 x5 x6 x7 O x8=>?_) hz hs hs2) hz hpl;obtain⟨ks,rfl,nd,hl,q⟩:=q;have l1:its.length=ks.length:=by rw[<- rv.length,ak]
 have l2:jts.length=ys.length:=B.length.symm;have len:(ks.zip jts).length=ks.length:=by rw[jg];omega
 refine eQ3 (L:=ks.zip jts) (N.ok.hd hc) ap Z x3 x2 x4 x5 x6 x7 (λj u v hu hv=>?_) (λj hj=>?_) ?_ λh2 tk d dl hd y=>?_
 ·have D:its[j]?=some u:=by simpa using hu
  have Y:jts[j]?=some v:=by simpa using hv
  have lj:j<ks.length:=by have:=(aD.mp D).1;omega
  have J:ks[j]?=some ks[j]:=ag lj;obtain⟨u',e,r⟩:=rv.get (i:=j) (x:=kV ks[j]) (by rw[aK,J];rfl)
  rw[D] at e;cases e;exact⟨ks[j],List.getElem?_zip_eq_some.mpr ⟨J,Y⟩,cJv r⟩
 ·rw[len];rcases hj with h|h
  ·have:its[j]?=none:=by simpa using h
   rw[ip] at this;omega
  ·have:jts[j]?=none:=by simpa using h
   rw[ip] at this;omega
 ·rw[len];rw[ak] at O;exact O
 ·have ln:s1.heap.objs.size<=d:=Nat.le_trans (Nat.le_of_lt (Nat.lt_of_le_of_lt (Nat.le_add_right _ 4) (aA Z))) dl;have ne:∀c o i,s1.heap.get? c=some o->c≠s1.heap.objs.size+i:=λc o i e=>Nat.ne_of_lt (Nat.lt_of_lt_of_le (aA e) (Nat.le_add_right _ _));have J:(ks.zip jts).foldl (λm p=>stored m p.1 p.2) []=ks.zip jts:=merged_nil_of_nodup _ (by rw[List.map_fst_zip (by omega)];exact nd)
  rw[J] at hd;refine⟨.ref d,_,N.laid (a:=d) (o:=.dK (ks.zip ys)) (t':=tk) (λc o e=>y c o (ne c o 4 e) (ne c o 3 e) (ne c o 0 e) (ne c o 1 e) (x8 c o e)) ln (eXm ?_ (beq_eq_false_iff_ne.mpr (dA (Nat.ne_of_lt (Nat.lt_of_lt_of_le N.big ln)))) (dZ7 B) hd),rfl,q d (N.hok.fresh ln)⟩;rw[jg];rw[ak] at O;omega
def kdIs(k:Bool)(S:Sto)(d:D)(xs:List D):Prop:=match k with
 |true=>lsIs S d xs
 |false=>d=.tup xs
def dDz(k1 k2:Bool)(ta:AD):ED:=fun Γ S Q=>ta Γ S λds S1=>∃(d1 d2:D) (ss:List Str) (ys:List D),ds=[d1,d2]/\kdIs k1 S1 d1 (ss.map D.str)/\kdIs k2 S1 d2 ys/\ss.Nodup/\ss.length=ys.length/\∀p,S1 p=none->Q (.ref p) (supd S1 p (.dk ((ss.map (eK:Str->Key)).zip ys)))
theorem kdIs.sq{k:Bool}{F:Am}{S:Sto}{H:Hp}(r:Rp K F S H){d:D}{v:V}{xs:List D}(h:RepV K (mt S F) H d v)(l:kdIs k S d xs):∃a us,v=.ref a/\SqB k K H a us/\RepL K (mt S F) H xs us:=by
 cases k
 ·cases l;exact tup.st h
 ·exact lsIs.sl r h l
theorem bJu{M:Am}{H:Hp}:∀{ss:List Str}{us:List V},RepL K M H (ss.map D.str) us->us=ss.map V.str
 |[],us,l=>by
  unfold RepL at l;exact l
 |s::ss,us,l=>by
  unfold RepL at l;obtain⟨x,xs,rfl,j,B⟩:=l;unfold RepV at j;rw[j,bJu B];rfl
theorem cXw{M M':Am}{H H':Hp}(up:∀d v,RepV K M H d v->RepV K M' H' d v):∀{ks:List Key}{ys:List D}{us:List V},RepL K M H ys us->bG (λ(p:Key×V) (q:Key×D)=>p.1=q.1/\RepV K M' H' q.2 p.2) (ks.zip us) (ks.zip ys)
 |[],_,_,_=>by rw[ez,ez];exact .nil
 |k::ks,[],us,l=>by
  unfold RepL at l;subst l;rw[dz,dz];exact .nil
 |k::ks,y::ys,us,l=>by
  unfold RepL at l;obtain⟨x,xs,rfl,B,j⟩:=l;exact .cons ⟨rfl,up _ _ B⟩ (cXw up j)
theorem eJm{e f:Expr}{ta:AD}{p0 p pos pos':Pos}(nw:ZNew k1 k2)(hg0:Gl X "dict")(hm0:X.mg "dict"=none)(hg:Gl X "zip")(hm:X.mg "zip"=none)(ha:PAD K X [e,f] ta)(hK:X.K=K:=by rfl)(hc:X.calm=true:=by rfl)
  (hz:az [.Call (.Name "zip" p) [e,f] [] pos'] X.env=(false,eval (.Call (.Name "zip" p) [e,f] [] pos') X.env)::az [] X.env:=by rfl) (hs:az [e,f] X.env=[(false,eval e X.env),(false,eval f X.env)]:=by rfl) (hs2:az [f] X.env=[(false,eval f X.env)]:=by rfl)
  (hpl:(cq pos (az [] X.env)).any (·.1)=false:=by rfl):PD K X (.Call (.Name "dict" p0) [.Call (.Name "zip" p) [e,f] [] pos'] [] pos) (dDz k1 k2 ta):=by
 subst hK;refine .of (eQ4 nw hg0 hm0 hg hm ha.o hc hz hs hs2 hpl) fun σ H Q O=>O.el λF S Γ QD r g q c=>⟨F,S,Γ,_,r,g,q,λvs ds H1 S1 Y B v1 q1=>?_⟩;obtain⟨d1,d2,ss,ys,rfl,h1,h2,nd,hl,q⟩:=q1;obtain⟨v,w,rfl,Z,N⟩:=v1.two;obtain⟨a,us,rfl,sq,lu⟩:=h1.sq B Z;obtain⟨b,J,rfl,L,j⟩:=h2.sq B N;refine⟨a,b,us,J,rfl,sq,L,ss.map eK,?_,?_,?_,λp D=>?_⟩
 ·rw[a7];exact bJu lu
 ·exact List.Pairwise.map _ (λa b h z=>h (eK.inj z)) nd
 ·rw[ak,hl,j.length]
 ·exact c (.ref p) (.ref p) _ (supd S1 p (.dk ((ss.map eK).zip ys))) (Y.trans (Ext.mk' D)) (B.mk' D ⟨_,aQ9,cXw (λd v h=>h.keep (Ext.mk' D).kp) j⟩) (by unfold RepV;rfl) (q p (B.sn D))
end
end L2
set_option maxHeartbeats 1000000
namespace Toy
open PySem L2
end Toy
set_option maxHeartbeats 4000000
namespace L2
open PySem
theorem bXz{ts:List (List Str)}{N:List Str}(h:∀t∈ts,∀x∈t,x∈N):(nms ts).length<=N.length:=(aXy ts).nodup.length_le_of_subset λx B=>by
 obtain⟨t,D,j⟩:=mem_nms.mp B;exact h t D x j
end L2
set_option maxHeartbeats 1000000
namespace Toy
open PySem L2
section
variable{us ms:List Str}(hl:ms.length=us.length)(su:Srt us)(sm:Srt ms)
include hl su sm
theorem fZ1{a b:Str}(ha:a∈us)(hb:b∈us)(h:HT.ltS a b=true):HT.ltS (tr us ms a) (tr us ms b)=true:=by
 obtain⟨B,e1⟩:=eJi hl ha;obtain⟨j,e2⟩:=eJi hl hb;rw[e1,e2];have h1:=e8 ha;have h2:=e8 hb;refine cw.mp sm _ _ B j ?_;rcases Nat.lt_trichotomy (us.idxOf a) (us.idxOf b) with z|z|z
 ·exact z
 ·have:us[us.idxOf a]=us[us.idxOf b]:=by congr 1
  rw[fL,fL] at this;subst this;rw[HT.ltS_ir] at h;cases h
 ·have:=cw.mp su _ _ h2 h1 z
  rw[fL,fL] at this;rw[HT.ltS_as this] at h;cases h
variable{ts:List (List Str)}(hs:SrtT ts)(he:∀t∈ts,Srt t)(hn:∀t∈ts,∀n∈t,n∈us)
include hs he hn
end
abbrev s_law_otherwise_right:Stmt:=top 20
theorem sc_law_otherwise_right:FnScope ["sets", "names", "others", "many", "called", "other", "due"] ["sets", "names", "others", "many"] (aQ3 s_law_otherwise_right):=fsc
def aZi(pt:Addr):SpD:=λds S Q=>∃(ts:List (List Str)) (us vs:List Str) (m:Nat),ds=[.tup (ts.map tupS),tupS us,tupS vs,.int m]/\S pt=some (.tb lposM (lamQual "most_had"))/\Wc 6 ts/\In us ts/\Srt us/\Srt vs/\vs.length=us.length/\us.length<=60/\m<=60/\Q (.bl true) S
section
variable{P:aE}{w:aQ}{K:ar}{mg:Str->Option ad}{base:aX}{pt cc:Addr}
theorem aZv(T:Tx K mg "_law_otherwise_right" s_law_otherwise_right)(B:Bs mg)(BD:mg "dict"=none)(d_flower_by_way:Df P w K mg base 5 "flower_by_way" ["sets", "many"] (spU K (bJo pt)))(d_law_called:Df P w K mg base 5 "_law_called" ["told", "names"] (spU K aXl)):Df P w K mg base 6 "_law_otherwise_right" ["sets", "names", "others", "many"] (spU K (aZi pt)):=by
 refine aZu T sc_law_otherwise_right (λF=>F.binds λ_ _ _ _ _ _=>us4 λ_ _ _ _=>rfl) ?_ λf cdv A outer s H E Y=>⟨_,(aQ2 (aQb (i:=4) sc_law_otherwise_right.nd rfl (gy rfl) (eJm fZ0 rfl BD rfl B.zip (aQ0 (dv 1) (aQ0 (dv 2) aQ1))))
  (aQ2 (aQb (i:=5) sc_law_otherwise_right.nd rfl (a4 rfl) (aQm rfl B.tuple (aQ0 (aQp (N':=["one", "called"]) (oc:=none) (b:=false) [0] [] rfl sc_law_otherwise_right.nd (λ_ _ _=>aQa ..) (.own (.cap (i:=4) rfl (by decide +kernel) .nil)) (aQh rfl) (aZ0 (dv 0)) (cg_name (i:=0)) (λ_ _ _ _ _=>aQe (i:=0) (nd_ ["one", "called"]) rfl (a4 rfl) (.inr rfl)) (λ_ _ _ _ _=>aQo) aQj (λ_ _ _ _ _ _=>aQi rfl (by exact PD.o (aQm rfl B.tuple (aQ0 (aQp (N':=["name", "called"]) (oc:=none) (b:=false) [0] [] rfl (nd_ ["one", "called"]) (λ_ _ _=>aQa ..) (.own (.cap (i:=1) rfl (by decide +kernel) .nil)) (aQh rfl) (aZ0 (dv 0)) (cg_name (i:=0)) (λ_ _ _ _ _=>aQe (i:=0) (nd_ ["name", "called"]) rfl (a4 rfl) (.inr rfl)) (λ_ _ _ _ _=>aQo) aQj (λ_ _ _ _ _ _=>aQi rfl (by exact PD.o (dZ3 Y (dv 1) (dv 0))))) aQ1))))) aQ1)))
  (aQ2 (aQb (i:=6) sc_law_otherwise_right.nd rfl (a4 rfl) (aQ8 d_law_called Y rfl (aQ0 (aQ8 d_flower_by_way Y rfl (aQ0 (dv 0) (aQ0 (dv 3) aQ1))) (aQ0 (dv 4) aQ1))))
  (aQ4 (aQl (e_eq Y (aQ8 d_flower_by_way Y rfl (aQ0 (dv 5) (aQ0 (dv 3) aQ1))) (dv 6))))))),?_⟩
 ·rintro ds S Q ⟨ts,us,vs,m,rfl,_⟩;rfl
 ·rintro ds S Q ⟨ts,us,vs,m,rfl,hP,J,j,hu,hv,hl,h60,O,q⟩;refine⟨_,_,us,vs.map D.str,rfl,rfl,rfl,hu.nodup,by rw[ak,hl],λp hp=>?_⟩
  have hk:Kps S (supd S p (.dk (zipK us vs))):=Kps.set (λ_ _ e=>e) hp _;have hD:supd S p (.dk (zipK us vs)) p=some (.dk (zipK us vs)):=aQ7;generalize supd S p (.dk (zipK us vs))=S1 at hk hD ⊢;have Z:=hk _ _ hP;have he:=λt L=>(J.each t L).1;have up:Up (tr us vs) us:=⟨λa ha b hb e=>fZ1 hl hu hv ha hb e⟩;refine⟨_,rfl,aQn (f:=λt=>tupS (t.map (tr us vs))) (λt L Q q=>⟨t.map D.str,rfl,aQn (f:=λn=>D.str (tr us vs n)) (λn hn Q q=>?_) (aQ5 (by show 0+t.length<=9999;have:=(J.each t L).2;omega)) ?_⟩) (aQ5 (by show 0+ts.length<=9999;have:=J.len;omega)) ?_⟩
  ·exact⟨zipK us vs,_,_,hD,rfl,bZ9 us vs n hl (j t L n hn),q⟩
  ·refine⟨_,rfl,?_⟩;rw[a9];have e:(t.map λn=>D.str (tr us vs n))=(t.map (tr us vs)).map D.str:=by rw[a7];rfl
   rw[e];exact q
  refine⟨_,rfl,?_⟩;rw[a9];have e:(ts.map λt=>tupS (t.map (tr us vs)))=(ts.map (bq (tr us vs))).map tupS:=by rw[a7];rfl
  rw[e];have hW2:Wc 6 (ts.map (bq (tr us vs))):=⟨up.srtT J.srt j,λt L=>by
   obtain⟨u,N,rfl⟩:=aP.mp L;exact⟨up.srt (he u N) (j u N),by rw[ak];exact(J.each u N).2⟩,by rw[ak];exact J.len,by rw[up.nms j,ak];exact J.nms⟩
  refine⟨ts,m,rfl,Z,J,O,?_⟩;refine⟨p,us,vs,flW m (wayS m 6 ts),(wayS m 6 ts).1,(wayS m 6 ts).2,rfl,hD,hl,λs hs=>?_,Nat.le_trans (bZ8 _ _) (by decide),λg eg=>?_,?_⟩
  ·exact(up.way (m:=m) 6 J.srt he j).2.2 _ (bA hs)
  ·obtain⟨_,_,sub,gl⟩:=dJr J.srt he eg;exact⟨by omega,λt L=>⟨by have:=(J.each t (sub t L)).2;omega,j t (sub t L)⟩⟩
  ·rw[<- up.wayD J.srt he j];refine⟨_,m,rfl,Z,hW2,O,?_⟩;refine⟨(bZ5 m (ts.map (bq (tr us vs)))).ok (bZ5 m (ts.map (bq (tr us vs)))),aZd hk ?_⟩;rw[if_neg (show ¬ (false=true) by decide),show decide (_=_)=true from decide_eq_true rfl]
   exact q
end
end Toy
namespace L2
open PySem PySem.Spec PyProof.Rows
section
variable{X:Cx}{K:Fg}{pos:Pos}{k:Nat}
def eJn(K:Fg):List V->Hp->VK->Prop:=λvs H Q=>∃a ns,vs=[.ref a]/\SqL K H a (ns.map V.int)/\ns≠[]/\∀m∈ns,(∀n∈ns,n<=m)->Q (.int m) H
theorem cXx(hK:X.K=K:=by rfl)(hc:X.calm=true:=by rfl):CallR X (.builtin "max") (eJn K):=by
 intro pins s σ H xs us Q I r h;subst hK;obtain⟨a,ns,rfl,sq,hn,q⟩:=h;obtain⟨u,rfl,rx⟩:=aXb r;cases rx;obtain⟨its,Y,pl,hz⟩:=I.list sq;have hi:gC its ns:=bQ7 Y;obtain⟨ys,L⟩:=hi.allInts.items;have hl:=pl.isList;rw[L] at hl;have B:ns=ys.toList.map (·.1):=by rw[<- hi.numsOf,<- nums_intItems,<- L]
 have J:0<ys.size:=by
  have N:0<ns.length:=cV.mpr hn;rw[B,ak,aH] at N;exact N
 refine max_intList (I.ok.hd hc) hl J λv h' O Z hk=>?_;obtain⟨t,rfl⟩:=intItems_at Z;obtain⟨h1,h2⟩:=argBest_gt (numAt ys) (ys.size-1);refine⟨.int _,H,I.kept (t':=O) hk,⟨t,rfl⟩,q _ ?_ λn D=>?_⟩
 ·rw[B,numAt_eq];exact getD_mem (by rw[ak,aH];omega)
 ·rw[B] at D;obtain⟨j,hj,rfl⟩:=mem_getD D;rw[ak,aH] at hj;rw[<- numAt_eq];exact h2 j (by omega)
def maxD:RCD:=λds S Q=>match ds with
 |[d]=>∃ns:List Int,lsIs S d (ns.map D.int)/\ns≠[]/\∀m∈ns,(∀n∈ns,n<=m)->Q (.int m) S
 |_=>False
theorem eQ5:aJu K (eJn K) maxD:=by
 intro F S H ds vs Q QD r l h c
 match ds,h with
 |[d],⟨ns,hs,hn,q⟩ =>
  obtain⟨v,rfl,B⟩:=l.one;obtain⟨a,us,rfl,sq,D⟩:=lsIs.sl r B hs;rw[bXo D] at sq;exact⟨a,ns,rfl,sq,hn,λm hm j=>c.here r (by unfold RepV;rfl) (q m hm j)⟩
theorem eJo{e:Expr}{t:AD}{p:Pos}(hr:Room k X.A)(hg:Gl X "max")(hm:X.mg "max"=none)(ha:PAD K X [e] t)(hK:X.K=K:=by rfl)(hc:X.calm=true:=by rfl)
  (he:az [e] X.env=(false,eval e X.env)::az [] X.env:=by rfl) (hpl:(cq pos (az [] X.env)).any (·.1)=false:=by rfl) :
  PD K X (.Call (.Name "max" p) [e] [] pos) (dCB maxD t) :=
 .of (bQj (cXx hK hc) hg hm rfl ha.o (by decide) (by decide) he hpl) (dX8 eQ5)
end
end L2
namespace Toy
open PySem L2
abbrev s_law_one_more_right:Stmt:=top 21
theorem sc_law_one_more_right:FnScope ["sets", "many", "count", "more", "wider", "found", "trace", "told"] ["sets", "many", "count"] (aQ3 s_law_one_more_right):=fsc
def aXm(pt:Addr):SpD:=λds S Q=>∃(ts:List (List Str)) (m c:Nat),ds=[.tup (ts.map tupS),.int m,.int c]/\S pt=some (.tb lposM (lamQual "most_had"))/\Wc 6 ts/\(nms ts).length<=24/\2<=m/\m<=60/\Q (.bl true) S
section
variable{P:aE}{w:aQ}{K:ar}{mg:Str->Option ad}{base:aX}{pt cc:Addr}
theorem aX3(T:Tx K mg "_law_one_more_right" s_law_one_more_right)(B:Bs mg)(d_flower_by_way:Df P w K mg base 5 "flower_by_way" ["sets", "many"] (spU K (bJo pt))):Df P w K mg base 6 "_law_one_more_right" ["sets", "many", "count"] (spU K (aXm pt)):=by
 refine aZu T sc_law_one_more_right (λF=>F.binds λ_ _ _ _ _ _=>us3 λ_ _ _=>rfl) ?_ λf cdv A outer s H E O=>⟨_,(aQ2 (aQb (i:=3) sc_law_one_more_right.nd rfl (gy rfl) aXg)
  (aQ2 (aZz (PWD.pt (fQg (dXi O (dv 2) aQ6) (eX4 (dXi O (eJo O rfl B.max (aQ0 (aZ4 (k:=false) (aZt (b:=false) (aQ0 aQ6 aQ1)) (aQp (N':=["one"]) (oc:=none) (b:=false) [0] [] rfl sc_law_one_more_right.nd (λ_ _ _=>aQa ..) (.own .nil) (aQh rfl) (aZ0 (dv 0)) (cg_name (i:=0)) (λ_ _ _ _ _=>aQe (i:=0) (nd_ ["one"]) rfl (a4 rfl) (.inr rfl)) (λ_ _ _ _ _=>aQo) aQj (λ_ _ _ _ _ _=>aQi rfl (by exact PD.o (aXi rfl B.len (aQ0 (dv 0) aQ1)))))) aQ1)) aQ6)))) (aQ4 (aQl e_bl)) aQt)
  (aQ2 (aZz (eX0 O (aQp (N':=["one", "more"]) (oc:=none) (b:=false) [0] [] rfl sc_law_one_more_right.nd (λ_ _ _=>aQa ..) (.own (.cap (i:=3) rfl (by decide +kernel) .nil)) (aQh rfl) (aZ0 (dv 0)) (cg_name (i:=0)) (λ_ _ _ _ _=>aQe (i:=0) (nd_ ["one", "more"]) rfl (a4 rfl) (.inr rfl)) (λ_ _ _ _ _=>aX1 (by exact(PWD.pt (cZl (eX0 O (dv 0) (aZj aQ1)) (bXl (eXz (e_ix (dv 0) aQ6) (dv 1))))))) aQj (λ_ _ _ _ _ _=>aQi rfl (by exact PD.o (dv 0)))) (aZt (b:=false) aQ1)) (aQ4 (aQl e_bl)) aQt)
  (aQ2 (aQb (i:=4) sc_law_one_more_right.nd rfl (a4 rfl) (aQm rfl B.tuple (aQ0 (aZ3 (b:=false) O rfl B.sorted (aQ0 (aQp (N':=["one", "more"]) (oc:=none) (b:=false) [0] [] rfl sc_law_one_more_right.nd (λ_ _ _=>aQa ..) (.own (.cap (i:=3) rfl (by decide +kernel) .nil)) (aQh rfl) (aZ0 (dv 0)) (cg_name (i:=0)) (λ_ _ _ _ _=>aQe (i:=0) (nd_ ["one", "more"]) rfl (a4 rfl) (.inr rfl)) (λ_ _ _ _ _=>aQo) aQj (λ_ _ _ _ _ _=>aQi rfl (by exact PD.o (aZ4 (k:=false) (aZj (aQ0 (dv 1) aQ1)) (dv 0))))) aQ1)) aQ1)))
  (aQ2 (aXj (aQ8 d_flower_by_way O rfl (aQ0 (dv 0) (aQ0 (dv 1) aQ1))) (bJc rfl (aZ6 (aQw (i:=5) sc_law_one_more_right.nd rfl (a4 rfl)) (aZ6 (aQw (i:=6) sc_law_one_more_right.nd rfl (a4 rfl)) bQs))))
  (aQ2 (aQb (i:=7) sc_law_one_more_right.nd rfl (a4 rfl) (aQ8 d_flower_by_way O rfl (aQ0 (dv 4) (aQ0 (dv 1) aQ1))))
  (cZx (aZz (bXk O (dv 5) bQ5) (aQ4 (aQb (i:=5) sc_law_one_more_right.nd rfl (a4 rfl) (aQm rfl B.tuple (aQ0 (aQp (N':=["one", "more"]) (oc:=none) (b:=false) [0] [] rfl sc_law_one_more_right.nd (λ_ _ _=>aQa ..) (.own (.cap (i:=3) rfl (by decide +kernel) .nil)) (aQh rfl) (aZ0 (dv 5)) (cg_name (i:=0)) (λ_ _ _ _ _=>aQe (i:=0) (nd_ ["one", "more"]) rfl (a4 rfl) (.inr rfl)) (λ_ _ _ _ _=>aQo) aQj (λ_ _ _ _ _ _=>aQi rfl (by exact PD.o (aZ4 (k:=false) (aZj (aQ0 (dv 1) aQ1)) (dv 0))))) aQ1)))) aQt)
  (aQ2 (aZz (dXg O (aXi rfl B.len (aQ0 (dv 0) aQ1)) aQ6) (aQ4 (aQl (e_eq O (dv 7) (aZj (aQ0 bQ5 (aQ0 (aZj (aQ0 (aZj (aQ0 aQ6 (aQ0 bQ5 (aQ0 aQ6 aQ1)))) aQ1)) aQ1)))))) aQt)
  (aQ4 (aQl (e_eq O (dv 7) (aZj (aQ0 (dv 5) (aQ0 (aZ4 (k:=false) (aZj (aQ0 (aZj (aQ0 aQ6 (aQ0 (dv 3) (aQ0 (aXi rfl B.len (aQ0 (dv 0) aQ1)) aQ1)))) aQ1)) (dv 6)) aQ1)))))))))))))),?_⟩
 ·rintro ds S Q ⟨ts,m,c,rfl,_⟩;rfl
 ·rintro ds S Q ⟨ts,m,c,rfl,hP,L,hn,m2,Y,q⟩;have fin:rtD Q (.bl true) S:=aQr q;refine⟨_,rfl,?_⟩;refine ite2 (λ_=>fin) λ_=>?_;refine⟨aQ5 (show 1<=9999 by decide),ts.map tupS,rfl,aQn (f:=λt=>D.int (t.length:Nat)) (λt J Q q=>⟨_,rfl,by rw[ak];exact q⟩) (aQ5 (by show 0+ts.length<=9999;have:=L.len;omega)) ?_⟩
  rw[a9];refine⟨_,_,rfl,rfl,aQ5 (by rw[ak];show 1+ts.length<=9999;have:=L.len;omega),0::ts.map (λt=>(t.length:Int)),by show _=_;rw[bg,a7];rfl,by simp,λmx hmx hle=>?_⟩
  refine⟨_,rfl,?_⟩;refine ite2 (λ_=>fin) λh5=>?_;have l5:∀t∈ts,t.length<=5:=λt J=>by
   have:=hle (t.length:Int) (ay _ (bA J))
   have h5:¬ 5<mx:=λz=>h5 (decide_eq_true z);omega
  clear hle hmx h5;have hW5:Wc 5 ts:=⟨L.srt,λt J=>⟨(L.each t J).1,l5 t J⟩,L.len,L.nms⟩;refine⟨ts.map tupS,rfl,aZe (p:=λt=>decide (t≠[]) && !HT.ltS (Str.ofString "aaaaaaaa") (t.headD ⟨#[]⟩)) (f:=tupS) (λt J Q q=>?_) (λt J _ Q q=>q) (aQ5 (by have:=L.len;show 0+ts.length<=9999;omega)) ?_⟩
  ·cases t with
   |nil=>exact⟨aQ5 (show 0<=9999 by decide),rfl,false,rfl,ite2 (λh=>nomatch h) λ_=>q⟩
   |cons x r=>exact⟨aQ5 (show 0<=9999 by decide),rfl,true,rfl,ite2 (λ_=>⟨_,_,rfl,aZw (xs:=(x::r).map D.str) (j:=0) rfl,_,rfl,q⟩) λh=>absurd rfl h⟩
  rw[a9];refine⟨aQ5 (by decide),nilE _,_,rfl,?_⟩
  rw[if_pos rfl,nilB,List.isEmpty_map];refine ite2 (λ_=>fin) λZ=>?_;have hc:∀t∈ts,Srt (Str.ofString "aaaaaaaa"::t):=λt J=>by
   have st:=(L.each t J).1;cases t with
   |nil=>exact bY _ _
   |cons x r =>
    have h1:HT.ltS (Str.ofString "aaaaaaaa") x=true:=by
     refine ba λz=>Z ?_;have hm:(x::r)∈ts.filter (λt=>decide (t≠[]) && !HT.ltS (Str.ofString "aaaaaaaa") (t.headD ⟨#[]⟩)):=bM.mpr ⟨J,by
      have z:HT.ltS (Str.ofString "aaaaaaaa") x=false:=by simpa using z
      show(decide (x::r≠[]) && !HT.ltS (Str.ofString "aaaaaaaa") x)=true;rw[z,decide_eq_true (by simp)];rfl⟩
     cases e:ts.filter (λt=>decide (t≠[]) && !HT.ltS (Str.ofString "aaaaaaaa") (t.headD ⟨#[]⟩)) with
     |nil=>rw[e] at hm;cases hm
     |cons _ _=>rfl
    refine a8.mpr ⟨λy hy=>?_,st⟩;rcases aM.mp hy with z|z
    ·rw[z];exact h1
    ·exact HT.ltS_tr h1 ((a8.mp st).1 y z)
  clear Z;generalize Str.ofString "aaaaaaaa"=mo at hc ⊢;refine⟨ts.map tupS,rfl,aQn (f:=λt=>tupS (mo::t)) (λt J Q q=>⟨aQ5 (show 1<=9999 by decide),aQ5 (by rw[ak];show 1+t.length<=9999;have:=l5 t J;omega),q⟩) (aQ5 (by show 0+ts.length<=9999;have:=L.len;omega)) ?_⟩
  refine .inr (.inr ⟨ts.map (bZ mo),by rw[a9];show _=_;rw[a7];rfl,?_⟩)
  rw[cXf (aZ8 L.srt)];refine⟨_,rfl,?_⟩;refine⟨ts,m,rfl,hP,L,Y,?_⟩;have hWw:Wc 6 (ts.map (bZ mo)):=⟨aZ8 L.srt,λt J=>by
   obtain⟨u,hu,rfl⟩:=aP.mp J;exact⟨hc u hu,Nat.succ_le_succ (l5 u hu)⟩,by rw[ak];exact L.len,Nat.le_trans (bXz (N:=mo::nms ts) λt J x hx=>by
    obtain⟨u,hu,rfl⟩:=aP.mp J;rcases aM.mp hx with z|z
    ·rw[z];exact au
    ·exact ay _ (mem_nms.mpr ⟨u,hu,z⟩)) (by rw[cT];omega)⟩
  show dXk _ _ (.tup [opT (flW m (wayS m 6 ts)),trD (wayS m 6 ts)]) _ S _;refine⟨rfl,rfl,?_⟩;refine⟨_,m,rfl,hP,hWw,Y,?_⟩;refine⟨fun Γ' S'=>S'=S/\Γ'=[some (.tup (ts.map tupS)),some (.int m),some (.int c),some (.str mo),some (.tup ((ts.map (bZ mo)).map tupS)),some (opT ((flW m (wayS m 6 ts)).map (bq (bZ mo)))),some (trD (wayS m 6 ts)),some (wayD m (ts.map (bZ mo)))],?_,?_⟩
  ·have hf:=λg (e:flW m (wayS m 6 ts)=some g)=>dJr L.srt (λt J=>(L.each t J).1) e;generalize flW m (wayS m 6 ts)=F at hf ⊢;cases F with
   |none=>exact⟨false,rfl,ite2 (λh=>nomatch h) λ_=>⟨rfl,rfl⟩⟩
   |some g =>
    obtain⟨_,_,sub,gl⟩:=hf g rfl;refine⟨true,rfl,ite2 (λ_=>?_) λh=>absurd rfl h⟩;refine⟨g.map tupS,rfl,aQn (f:=λt=>tupS (mo::t)) (λt J Q q=>⟨aQ5 (show 1<=9999 by decide),aQ5 (by rw[ak];show 1+t.length<=9999;have:=l5 t (sub t J);omega),q⟩) (aQ5 (by show 0+g.length<=9999;omega)) ?_⟩
    refine⟨_,rfl,rfl,?_⟩;have e:g.map (λt=>tupS (mo::t))=(g.map (bZ mo)).map tupS:=by rw[a7];rfl
    rw[a9,e];rfl
  rintro Γ S' ⟨rfl,rfl⟩;cases ts with
  |nil =>
   have ew:wayD m []=.tup [.non,.tup [.tup [.int 0,.non,.int 0]]]:=by
    unfold wayD;rw[eJd (show([]:List (List Str)).length<m by show 0<m;omega),aQy (show goW m ([]:List (List Str))=false by unfold goW;exact Bool.and_false _)]
    rfl
   show dSeq _ _ _ [_,_,_,_,_,_,_,some (wayD m [])] S';rw[ew];refine⟨_,rfl,rfl,true,fQz rfl,?_⟩;refine ite2 (λ_=>?_) λh=>absurd rfl h;refine⟨aQ5 (show 3<=9999 by decide),aQ5 (show 1<=9999 by decide),aQ5 (show 2<=9999 by decide),rfl,?_⟩
   rw[if_neg (show ¬ (false=true) by decide),show decide (_=_)=true from decide_eq_true rfl]
   exact fin
  |cons t ts =>
   obtain⟨w1,w2⟩:=cXt m2 hW5 hc (by simp)
   have wl:=bZ8 (m:=m) 6 (t::ts);have wk:=bZ5 m ((t::ts).map (bZ mo));have ew:wayD m ((t::ts).map (bZ mo))=.tup [opT ((flW m (wayS m 6 (t::ts))).map (bq (bZ mo))),.tup ([.tup [.int 1,.str mo,.int ((t::ts).length:Nat)]]++((wayS m 6 (t::ts)).1.map stD++[laD (wayS m 6 (t::ts)).2]))]:=by
    unfold wayD trD;rw[w2,w1];rfl
   rw[ew] at wk ⊢;have n0:decide (D.int (((t::ts).map tupS).length:Nat)=D.int 0)=false:=decide_eq_false λz=>by
    injection z with z
    rw[ak,cT] at z;omega
   refine⟨_,rfl,rfl,false,congrArg D.bl ((if_neg (by decide)).trans n0),?_⟩
   refine ite2 (λh=>nomatch h) λ_=>?_
   refine⟨_,rfl,aQ5 (show 3<=9999 by decide),aQ5 (show 1<=9999 by decide),aQ5 (by simp only[aG,ak,cT,dM];omega),aQ5 (show 2<=9999 by decide),?_⟩
   rw[ak];refine⟨wk.ok wk,?_⟩;rw[if_neg (show ¬ (false=true) by decide),show decide (_=_)=true from decide_eq_true rfl]
   exact fin
end
abbrev s_law_link_right:Stmt:=top 22
theorem sc_law_link_right:FnScope ["sets", "many", "found", "trace", "taken", "left", "one", "again", "bare"] ["sets", "many"] (aQ3 s_law_link_right):=fsc
def aXn(pt:Addr):SpD:=λds S Q=>∃(ts:List (List Str)) (m:Nat),ds=[.tup (ts.map tupS),.int m]/\S pt=some (.tb lposM (lamQual "most_had"))/\Wc 6 ts/\m<=60/\Q (.bl true) S
section
variable{P:aE}{w:aQ}{K:ar}{mg:Str->Option ad}{base:aX}{pt cc:Addr}
theorem aXz(T:Tx K mg "_law_link_right" s_law_link_right)(B:Bs mg)(d_flower_by_way:Df P w K mg base 5 "flower_by_way" ["sets", "many"] (spU K (bJo pt))):Df P w K mg base 6 "_law_link_right" ["sets", "many"] (spU K (aXn pt)):=by
 refine aZu T sc_law_link_right (λF=>F.binds λ_ _ _ _ _ _=>us2 λ_ _=>rfl) ?_ λf cdv A outer s H E J=>⟨_,(aQ2 (aXj (aQ8 d_flower_by_way J rfl (aQ0 (dv 0) (aQ0 (dv 1) aQ1))) (bJc rfl (aZ6 (aQw (i:=2) sc_law_link_right.nd rfl (a4 rfl)) (aZ6 (aQw (i:=3) sc_law_link_right.nd rfl (a4 rfl)) bQs))))
  (aQ2 (aQb (i:=4) sc_law_link_right.nd rfl (gy rfl) (aQp (N':=["step"]) (oc:=none) (b:=false) [0] [] rfl sc_law_link_right.nd (λ_ _ _=>aQa ..) (.own .nil) (aQh rfl) (aZ0 (dv 3)) (cg_name (i:=0)) (λ_ _ _ _ _=>aQe (i:=0) (nd_ ["step"]) rfl (a4 rfl) (.inr rfl)) (λ_ _ _ _ _=>aX1 (by exact(bXk J (e_ix (dv 0) aQ6) bQ5))) aQj (λ_ _ _ _ _ _=>aQi rfl (by exact PD.o (e_ix (dv 0) aQ6)))))
  (aQ2 (aQb (i:=5) sc_law_link_right.nd rfl (a4 rfl) (aZt (b:=true) aQ1))
  (aQ2 (bQe d9 rfl (aZ0 (dv 0)) (aQw (i:=6) sc_law_link_right.nd rfl (gy rfl)) (aQ4 (aZz (dXg J (aQp (N':=["name", "one"]) (oc:=none) (b:=false) [0] [] rfl sc_law_link_right.nd (λ_ _ _=>aQa ..) (.own (.cap (i:=6) rfl (by decide +kernel) .nil)) (aQh rfl) (aZ0 (dv 4)) (cg_name (i:=0)) (λ_ _ _ _ _=>aQe (i:=0) (nd_ ["name", "one"]) rfl (a4 rfl) (.inr rfl)) (λ_ _ _ _ _=>aX1 (by exact(bZt J (dv 0) (dv 1)))) aQj (λ_ _ _ _ _ _=>aQi rfl (by exact PD.o (dv 0)))) (aZt (b:=false) aQ1)) (aQ4 (aXu (aX7 (dv 5) (aQ0 (aQm rfl B.tuple (aQ0 (aQp (N':=["name", "taken"]) (oc:=none) (b:=false) [0] [] rfl sc_law_link_right.nd (λ_ _ _=>aQa ..) (.own (.cap (i:=4) rfl (by decide +kernel) .nil)) (aQh rfl) (aZ0 (dv 6)) (cg_name (i:=0)) (λ_ _ _ _ _=>aQe (i:=0) (nd_ ["name", "taken"]) rfl (a4 rfl) (.inr rfl)) (λ_ _ _ _ _=>aX1 (by exact(bZt J (dv 0) (dv 1)))) aQj (λ_ _ _ _ _ _=>aQi rfl (by exact PD.o (dv 0)))) aQ1)) aQ1)))) aQt)))
  (aQ2 (aQb (i:=7) sc_law_link_right.nd rfl (a4 rfl) (aQ8 d_flower_by_way J rfl (aQ0 (aQm rfl B.tuple (aQ0 (aZ3 (b:=false) J rfl B.sorted (aQ0 (dv 5) aQ1)) aQ1)) (aQ0 (dv 1) aQ1))))
  (aQ2 (aZz (fQf J (dv 2) bQ5) (aQ4 (aQl (e_eq J (dv 7) (aZj (aQ0 bQ5 (aQ0 (e_sl (b:=false) (dv 3) (aXe (eZx aQ6)) aJv) aQ1)))))) aQt)
  (aQ2 (aQb (i:=8) sc_law_link_right.nd rfl (a4 rfl) (aQm rfl B.tuple (aQ0 (aZ3 (b:=false) J rfl B.sorted (aQ0 (aQp (N':=["one", "taken"]) (oc:=none) (b:=false) [0] [] rfl sc_law_link_right.nd (λ_ _ _=>aQa ..) (.own (.cap (i:=4) rfl (by decide +kernel) .nil)) (aQh rfl) (aZ0 (dv 2)) (cg_name (i:=0)) (λ_ _ _ _ _=>aQe (i:=0) (nd_ ["one", "taken"]) rfl (a4 rfl) (.inr rfl)) (λ_ _ _ _ _=>aQo) aQj (λ_ _ _ _ _ _=>aQi rfl (by exact PD.o (aQm rfl B.tuple (aQ0 (aQp (N':=["name", "taken"]) (oc:=none) (b:=false) [0] [] rfl (nd_ ["one", "taken"]) (λ_ _ _=>aQa ..) (.own (.cap (i:=1) rfl (by decide +kernel) .nil)) (aQh rfl) (aZ0 (dv 0)) (cg_name (i:=0)) (λ_ _ _ _ _=>aQe (i:=0) (nd_ ["name", "taken"]) rfl (a4 rfl) (.inr rfl)) (λ_ _ _ _ _=>aX1 (by exact(bZt J (dv 0) (dv 1)))) aQj (λ_ _ _ _ _ _=>aQi rfl (by exact PD.o (dv 0)))) aQ1))))) aQ1)) aQ1)))
  (aQ4 (aQl (e_eq J (dv 7) (aZj (aQ0 (dv 8) (aQ0 (e_sl (b:=false) (dv 3) (aXe (eZx aQ6)) aJv) aQ1))))))))))))),?_⟩
 ·rintro ds S Q ⟨ts,m,rfl,_⟩;rfl
 ·rintro ds S Q ⟨ts,m,rfl,hP,j,m60,q⟩;have he:=λt L=>(j.each t L).1;refine⟨ts,m,rfl,hP,j,m60,?_⟩;have wl:=bZ8 (m:=m) 6 ts;have e2:=(aZq (m:=m) j.srt he 6).2.1;have nd:=(aZq (m:=m) j.srt he 6).1;have fo:=λg (e:flW m (wayS m 6 ts)=some g)=>dJr j.srt he e;have hL:=dJs (m:=m) j;have wL:=bJt (m:=m) j;have hB:=dJt (m:=m) j;show dXk _ _ (.tup [opT (flW m (wayS m 6 ts)),.tup ((wayS m 6 ts).1.map stD++[laD (wayS m 6 ts).2])]) _ S _;have tl:(tkW (wayS m 6 ts)).length=(wayS m 6 ts).1.length:=by unfold tkW;rw[ak]
  refine⟨rfl,rfl,?_⟩;refine⟨_,rfl,?_⟩;refine aJh (λi acc S'=>S'=S/\acc=((tkW (wayS m 6 ts)).take i).map D.str) ⟨rfl,rfl⟩ ?_ ?_
  ·rintro i x acc S' N hx ⟨rfl,rfl⟩ hN;have hi:=(aD.mp hx).1;rw[aG,ak] at hi;have hi:i<(wayS m 6 ts).1.length+1:=hi;have lt:(((tkW (wayS m 6 ts)).take i).map D.str).length<sizeLine:=by
    rw[ak,a6];exact Nat.lt_of_le_of_lt (Nat.min_le_right _ _) (Nat.lt_of_lt_of_le (show(tkW (wayS m 6 ts)).length<9999 by omega) (aQ5 (Nat.le_refl _)))
   by_cases h:i<(wayS m 6 ts).1.length
   ·rw[cU (by rw[ak];exact h),aK,bB] at hx
    obtain⟨s,h1,rfl⟩:=hx;have tk:(tkW (wayS m 6 ts)).take (i+1)=(tkW (wayS m 6 ts)).take i++[s.2.1]:=by
     unfold tkW;rw[cI,aK,h1];rfl
    refine⟨trivial,_,_,rfl,rfl,true,rfl,ite2 (λ_=>?_) λh=>absurd rfl h⟩;refine⟨_,_,rfl,rfl,lt,hN _ _ ⟨rfl,?_⟩⟩;rw[tk,b9];rfl
   ·have ei:i=(wayS m 6 ts).1.length:=by omega
    subst ei;rw[bR (by simp),ak,Nat.sub_self] at hx
    cases hx;refine⟨trivial,_,_,rfl,rfl,false,rfl,ite2 (λh=>nomatch h) λ_=>hN _ _ ⟨rfl,?_⟩⟩
    rw[aZ (by omega),aZ (by omega)]
  rintro acc S' ⟨rfl,rfl⟩;have eT:(tkW (wayS m 6 ts)).take ((wayS m 6 ts).1.map stD++[laD (wayS m 6 ts).2]).length=tkW (wayS m 6 ts):=aZ (by rw[aG,ak];omega)
  rw[eT];clear eT;have hWL:Wc 6 (wayS m 6 ts).2:=by
   rw[e2];exact⟨aQz j.srt.nodup he,λt L=>by
    obtain⟨v,hv,_,rfl⟩:=mem_lnk_row.mp L;exact⟨aJ4 (he v hv) _,Nat.le_trans (dr _ _) (j.each v hv).2⟩,by rw[bZ6];exact Nat.le_trans (dr _ _) j.len,Nat.le_trans (bXz (N:=nms ts) λt L x hx=>by
     obtain⟨v,hv,_,rfl⟩:=mem_lnk_row.mp L;exact mem_nms.mpr ⟨v,hv,(mem_wo.mp hx).1⟩) j.nms⟩
  have t60:(tkW (wayS m 6 ts)).length<=6:=by omega
  generalize tkW (wayS m 6 ts)=T at e2 nd hB tl fo t60 ⊢;generalize wayS m 6 ts=W at e2 hB tl fo hL wL wl hWL ⊢;refine⟨trivial,aQ5 (by decide),λp hp=>?_⟩
  refine⟨_,rfl,?_⟩;refine aXw (λi Γ S1=>∃(x6 x7 x8:Option D),Γ=[some (.tup (ts.map tupS)),some (.int m),some (opT (flW m W)),some (.tup (W.1.map stD++[laD W.2])),some (.lst (T.map D.str)),some (.ref p),x6,x7,x8]/\S1 p=some (.lst (((ts.take i).filter λt=>has t T).map λt=>tupS (wo t T)))/\Kps S' S1) ⟨none,none,none,rfl,aQ7,Kps.set (λ_ _ e=>e) hp _⟩ ?_ ?_
  ·rintro i x Γ S1 N hx ⟨x6,x7,x8,rfl,hl,Z⟩ hN;rw[aK,bB] at hx;obtain⟨t,Y,rfl⟩:=hx;have hi:=(aD.mp Y).1;have L:=ao Y;have l6:=(j.each t L).2;have l130:=j.len;have tk:ts.take (i+1)=ts.take i++[t]:=by rw[cI,Y];rfl
   refine⟨trivial,_,rfl,aZe (p:=λn=>!decide (n∈t)) (f:=D.str) (λn hn Q q=>in_t (E:=strE) (neg:=true) (by decide) rfl q) (λn hn _ Q q=>q) (aQ5 (by show 0+T.length<=9999;omega)) ?_⟩
   refine⟨aQ5 (by decide),nilE _,_,rfl,?_⟩
   rw[if_neg (by decide),nilB,a9,List.isEmpty_map,dJm]
   refine ite2 (λh=>?_) λh=>hN _ _ ⟨_,_,_,rfl,?_,Z⟩
   ·have lt:(((ts.take i).filter λt=>has t T).map λt=>tupS (wo t T)).length<sizeLine:=by
     rw[ak];refine Nat.lt_of_le_of_lt (dr _ _) (Nat.lt_of_le_of_lt (List.length_take_le _ _) (Nat.lt_of_lt_of_le (show i<9999 by omega) (aQ5 (Nat.le_refl _))))
    refine⟨⟨_,hl⟩,t.map D.str,rfl,aZe (p:=λn=>!decide (n∈T)) (f:=D.str) (λn hn Q q=>in_t (E:=strE) (neg:=true) (by decide) rfl q) (λn hn _ Q q=>q) (aQ5 (by show 0+t.length<=9999;omega)) ?_⟩
    rw[a9];refine⟨_,rfl,_,hl,lt,hN _ _ ⟨_,_,_,rfl,?_,Kps.set Z hp _⟩⟩;rw[aQ7,tk,List.filter_append,fy,if_pos h,List.filter_nil,b9];rfl
   ·rw[tk,List.filter_append,fy,if_neg h];rw[hl,List.filter_nil,br]
  rintro Γ S1 ⟨x6,x7,x8,rfl,hl,Z⟩;rw[ak,dY] at hl;have hP1:=Z _ _ hP;refine⟨trivial,.inr (.inr ⟨(ts.filter λt=>has t T).map λt=>wo t T,by rw[a7];exact .inl hl,?_⟩)⟩
  rw[show srT ((ts.filter λt=>has t T).map λt=>wo t T)=W.2 from e2.symm]
  refine⟨_,rfl,W.2,m,rfl,hP1,hWL,m60,?_⟩;have O:=bZ5 m W.2;have ew:wayD m W.2=.tup [opT (if (chs W.2).length<m then none else some ((chs W.2).take m)),.tup [laD W.2]]:=by
   unfold wayD trD;rw[hL,wL];rfl
  rw[ew] at O ⊢
  by_cases h:(chs W.2).length<m
  ·have eF:flW m W=none:=by unfold flW;rw[if_pos h]
   rw[if_pos h] at O ⊢;rw[eF];refine⟨true,rfl,ite2 (λ_=>?_) λh=>absurd rfl h⟩;refine⟨_,rfl,?_⟩;dsimp only[slD,bXm];rw[dZ6];refine⟨aQ5 (show 2<=9999 by decide),O.ok O,?_⟩
   rw[if_neg (show ¬ (false=true) by decide),show decide (D.tup [opT none,.tup [laD W.2]]=D.tup [D.non,.tup [laD W.2]])=true from decide_eq_true rfl]
   exact aZd Z q
  ·have eF:flW m W=some (pag ((chs W.2).take m) T):=by
    cases e:flW m W with
    |none=>unfold flW at e;rw[if_neg h] at e;cases e
    |some g=>rw[(fo g e).2.1]
   obtain⟨_,_,sub,gl⟩:=fo _ eF;rw[if_neg h] at O ⊢;rw[eF];refine⟨false,rfl,ite2 (λh=>nomatch h) λ_=>?_⟩
   refine⟨(pag ((chs W.2).take m) T).map tupS,rfl,aQn (f:=λt=>tupS (wo t T)) (λt L Q q=>⟨t.map D.str,rfl,aZe (p:=λn=>!decide (n∈T)) (f:=D.str) (λn hn Q q=>in_t (E:=strE) (neg:=true) (by decide) rfl q) (λn hn _ Q q=>q) (aQ5 (by show 0+t.length<=9999;have:=(j.each t (sub t L)).2;omega)) ?_⟩) (aQ5 (by show 0+(pag ((chs W.2).take m) T).length<=9999;omega)) ?_⟩
   ·rw[a9];exact⟨_,rfl,q⟩
   refine .inr (.inr ⟨(pag ((chs W.2).take m) T).map λt=>wo t T,by rw[a9];show _=_;rw[a7];rfl,?_⟩)
   rw[hB];refine⟨_,rfl,?_⟩;refine⟨_,rfl,?_⟩;dsimp only[slD,bXm];rw[dZ6];refine⟨aQ5 (show 2<=9999 by decide),O.ok O,?_⟩
   rw[if_neg (show ¬ (false=true) by decide),show decide (D.tup [opT (some ((chs W.2).take m)),.tup [laD W.2]]=D.tup [.tup (((chs W.2).take m).map tupS),.tup [laD W.2]])=true from decide_eq_true rfl]
   exact aZd Z q
end
abbrev bZc:Stmt:=top 23
theorem sc_law:FnScope ["script", "pile", "turn", "great", "count", "names", "others", "size", "sizes", "sets", "many"] ["script"] (aQ3 bZc):=fsc
section
variable{P:aE}{w:aQ}{K:ar}{mg:Str->Option ad}{base:aX}{pt cc:Addr}
theorem eJp{f:Addr}{fd:c6}(Fn:Fun K "law" "law" bZc f fd)(B:Bs mg)(d_law_pile:Df P w K mg base 49 "_law_pile" ["script"] (spU K aJz))(d_law_next:Df P w K mg base 49 "_law_next" ["pile", "most"] (spU K aZ2))(d_law_names:Df P w K mg base 49 "_law_names" ["pile", "many"] (spU K aJ3))(d_law_collection:Df P w K mg base 49 "_law_collection" ["pile", "names", "count", "sizes"] (spU K aZh))(d_law_otherwise_right:Df P w K mg base 49 "_law_otherwise_right" ["sets", "names", "others", "many"] (spU K (aZi pt)))(d_law_one_more_right:Df P w K mg base 49 "_law_one_more_right" ["sets", "many", "count"] (spU K (aXm pt)))(d_law_link_right:Df P w K mg base 49 "_law_link_right" ["sets", "many"] (spU K (aXn pt))):FnOk P w K mg base CX0 50 f fd ["script"] (spU K (bJn pt lposM (lamQual "most_had") 63)):=by
 refine e_fn Fn sc_law ?_ λcdv A outer s H E Y=>⟨_,(aQ2 (aQb (i:=1) sc_law.nd rfl (a4 rfl) (aQ8 d_law_pile Y rfl (aQ0 (dv 0) aQ1)))
  (aQ2 (bQe d9 rfl (aXk rfl B.range (aQ0 aQ6 aQ1)) (aQw (i:=2) sc_law.nd rfl (a4 rfl)) (aQ2 (aQb (i:=3) sc_law.nd rfl (a4 rfl) (eX9 rfl B.int (aQ0 (e_eq Y (aQ8 d_law_next Y rfl (aQ0 (dv 1) (aQ0 aQ6 aQ1))) aQ6) aQ1)))
  (aQ2 (aQb (i:=4) sc_law.nd rfl (a4 rfl) (aZ4 (k:=false) aQ6 (aQ8 d_law_next Y rfl (aQ0 (dv 1) (aQ0 (e_ix (aZt (b:=false) (aQ0 aQ6 (aQ0 aQ6 aQ1))) (dv 3)) aQ1)))))
  (aQ2 (aQb (i:=5) sc_law.nd rfl (a4 rfl) (aQ8 d_law_names Y rfl (aQ0 (dv 1) (aQ0 (dv 4) aQ1))))
  (aQ2 (aQb (i:=6) sc_law.nd rfl (a4 rfl) (aQ8 d_law_names Y rfl (aQ0 (dv 1) (aQ0 (dv 4) aQ1))))
  (aQ2 (aQb (i:=7) sc_law.nd rfl (a4 rfl) (aQ8 d_law_next Y rfl (aQ0 (dv 1) (aQ0 aQ6 aQ1))))
  (aQ2 (aQb (i:=8) sc_law.nd rfl (a4 rfl) (e_ix (aZt (b:=false) (aQ0 (aZt (b:=false) (aQ0 (dv 7) aQ1)) (aQ0 (aZt (b:=false) (aQ0 aQ6 (aQ0 aQ6 (aQ0 aQ6 (aQ0 aQ6 (aQ0 aQ6 (aQ0 aQ6 (aQ0 aQ6 aQ1)))))))) (aQ0 (aZt (b:=false) (aQ0 aQ6 (aQ0 aQ6 (aQ0 aQ6 aQ1)))) (aQ0 (aZt (b:=false) (aQ0 aQ6 (aQ0 aQ6 aQ1))) aQ1))))) (aQ8 d_law_next Y rfl (aQ0 (dv 1) (aQ0 aQ6 aQ1)))))
  (aQ2 (aQb (i:=9) sc_law.nd rfl (a4 rfl) (aQ8 d_law_collection Y rfl (aQ0 (dv 1) (aQ0 (dv 5) (aQ0 (fQa (e_ix (aZt (b:=false) (aQ0 aQ6 (aQ0 aQ6 aQ1))) (dv 3)) (aQ8 d_law_next Y rfl (aQ0 (dv 1) (aQ0 aQ6 aQ1)))) (aQ0 (dv 8) aQ1))))))
  (aQ4 (bQe d9 rfl (aZ0 (aZj (aQ0 aQ6 (aQ0 aQ6 (aQ0 (aZ4 (k:=false) aQ6 (aQ8 d_law_next Y rfl (aQ0 (dv 1) (aQ0 aQ6 aQ1)))) aQ1))))) (aQw (i:=10) sc_law.nd rfl (a4 rfl)) (aQ2 (aZz (bJa (bQc (aQ8 d_law_otherwise_right Y rfl (aQ0 (dv 9) (aQ0 (dv 5) (aQ0 (dv 6) (aQ0 (dv 10) aQ1))))))) (aQ4 (aQl e_bl)) aQt)
  (aQ2 (aZz (bJa (bQc (aQ8 d_law_one_more_right Y rfl (aQ0 (dv 9) (aQ0 (dv 10) (aQ0 (dv 4) aQ1)))))) (aQ4 (aQl e_bl)) aQt)
  (aQ4 (aZz (bJa (bQc (aQ8 d_law_link_right Y rfl (aQ0 (dv 9) (aQ0 (dv 10) aQ1))))) (aQ4 (aQl e_bl)) aQt))))))))))))))
  (aQ4 (aQl e_bl)))),?_⟩
 ·rintro ds S Q ⟨ns,rfl,_⟩;rfl
 ·rintro ds S Q ⟨ns,rfl,h63,hP,hS,q⟩;refine⟨ns,rfl,h63,λp S1 hp off dk=>⟨⟨by decide,by decide⟩,?_⟩⟩
  have J:pt≠p:=by rintro rfl;rw[hp] at hP;cases hP
  have hP1:S1 pt=some (.tb lposM (lamQual "most_had")):=(off pt J).trans hP;refine aXw (λi Γ S'=>∃(x2 x3 x4 x5 x6 x7 x8 x9 L:Option D),Γ=[some (.lst (ns.map D.int)),some (.ref p),x2,x3,x4,x5,x6,x7,x8,x9,L]/\Pile S' p/\S' pt=some (.tb lposM (lamQual "most_had"))) ⟨none,none,none,none,none,none,none,none,none,rfl,dk,hP1⟩ ?_ ?_
  ·rintro i x Γ S2 N hx ⟨x2,x3,x4,x5,x6,x7,x8,x9,L,rfl,dk2,hP2⟩ hN;obtain⟨hi,rfl⟩:=cX6 hx;refine⟨trivial,p,4,rfl,dk2,by decide,by decide,λr0 S2a r00 r01 off2a dk2a=>?_⟩
   refine⟨rfl,?_⟩;generalize (if false=true then !decide (D.int r0=D.int 0) else decide (D.int r0=D.int 0))=b
   obtain⟨v,hv,v1,v2⟩:∃v:Nat,atI [D.int 11,.int 23] (if b=true then 1 else 0)=some (.int (v:Nat))/\1<=v/\v<=23:=by
    cases b with
    |true=>exact⟨23,rfl,by decide,by decide⟩
    |false=>exact⟨11,rfl,by decide,by decide⟩
   obtain⟨u,hu,u1,u2⟩:∃u:Nat,atI [D.int 14,.int 120] (if b=true then 1 else 0)=some (.int (u:Nat))/\14<=u/\u<=120:=by
    cases b with
    |true=>exact⟨120,rfl,by decide,by decide⟩
    |false=>exact⟨14,rfl,by decide,by decide⟩
   refine⟨aQ5 (by decide),_,_,rfl,hv,p,v,rfl,dk2a,by omega,by omega,λr1 S3 r10 r11 off3 dk3=>?_⟩
   obtain⟨nn,hn,n24⟩:∃nn:Nat,2+r1=nn/\nn<=24:=⟨(2+r1).toNat,by omega,by omega⟩
   dsimp only[addD,aZg];rw[hn];refine⟨p,nn,rfl,dk3,n24,λnames S4 nd pw hl h1 off4 dk4=>?_⟩;refine⟨p,nn,rfl,dk4,n24,λothers S5 nd5 pw5 hl5 h15 off5 dk5=>?_⟩;refine⟨p,7,rfl,dk5,by decide,by decide,λr2 S6 r20 r21 off6 dk6=>?_⟩
   obtain⟨sz,hsz,s6⟩:∃sz:Nat,r2=sz/\sz<=6:=⟨r2.toNat,by omega,by omega⟩
   subst hsz;refine⟨aQ5 (show 1<=9999 by decide),aQ5 (by decide),aQ5 (by decide),aQ5 (by decide),aQ5 (show 4<=9999 by decide),p,4,rfl,dk6,by decide,by decide,λr3 S7 r30 r31 off7 dk7=>?_⟩
   obtain⟨j,hat,sne,s99,smost⟩:∃j:List Nat,atI [D.lst [.int (sz:Nat)],.lst [.int 0,.int 1,.int 2,.int 3,.int 4,.int 5,.int 6],.lst [.int 1,.int 2,.int 3],.lst [.int 2,.int 3]] r3=some (.lst (j.map λk:Nat=>D.int (k:Nat)))/\j≠[]/\j.length<=99/\∀k∈j,k<=6:=by
    have h:r3=0\/r3=1\/r3=2\/r3=3:=by omega
    rcases h with rfl|rfl|rfl|rfl
    ·exact⟨[sz],rfl,by simp,by simp,by simpa using s6⟩
    ·exact⟨[0,1,2,3,4,5,6],rfl,by simp,by simp,by decide⟩
    ·exact⟨[1,2,3],rfl,by simp,by simp,by decide⟩
    ·exact⟨[2,3],rfl,by simp,by simp,by decide⟩
   refine⟨_,_,rfl,hat,aQ5 (by decide),_,_,rfl,hu,?_⟩
   refine⟨p,15,rfl,dk7,by decide,by decide,λr4 S8 r40 r41 off8 dk8=>?_⟩
   obtain⟨cn,hcn,c120⟩:∃cn:Nat,(u:Int)-r4=cn/\cn<=120:=⟨((u:Int)-r4).toNat,by omega,by omega⟩
   refine⟨p,names,cn,j,6,congrArg (λz:Int=>[D.ref p,tupS names,.int z,.lst (j.map λk:Nat=>D.int (k:Nat))]) hcn,dk8,nd,by omega,by omega,sne,s99,smost,by decide,λts S9 tnd tpw O tl off9 dk9=>?_⟩
   have hin:In names ts:=λt ht=>(O t ht).2.2.1;have n24':(nms ts).length<=24:=Nat.le_trans (bXz hin) (by omega)
   have hW:Wc 6 ts:=⟨cXe tnd tpw,λt ht=>⟨bJj (O t ht).1 (O t ht).2.1,(O t ht).2.2.2⟩,by omega,by omega⟩
   refine⟨p,5,rfl,dk9,by decide,by decide,λr5 S10 r50 r51 off10 dk10=>?_⟩
   have Z:S10 pt=some (.tb lposM (lamQual "most_had")):=by
    rw[off10 pt J,off9 pt J,off8 pt J,off7 pt J,off6 pt J,off5 pt J,off4 pt J,off3 pt J,off2a pt J];exact hP2
   refine⟨aQ5 (show 3<=9999 by decide),_,rfl,?_⟩
   refine aXw (λk Γ S'=>∃(L:Option D),Γ=[some (.lst (ns.map D.int)),some (.ref p),some (.int (i:Nat)),some (.int (if b=true then 1 else 0)),some (.int (nn:Nat)),some (tupS names),some (tupS others),some (.int (sz:Nat)),some (.lst (j.map λk=>.int (k:Nat))),some (.tup (ts.map tupS)),L]/\S'=S10) ⟨L,rfl,rfl⟩ ?_ ?_
   ·rintro k x Γ S' N2 hx ⟨L,rfl,rfl⟩ hN2;obtain⟨m,rfl,m2,m6⟩:∃m:Nat,x=.int (m:Nat)/\2<=m/\m<=6:=by
     match k,hx with
     |0,hx=>cases hx;exact⟨2,rfl,by decide,by decide⟩
     |1,hx=>cases hx;exact⟨3,rfl,by decide,by decide⟩
     |2,hx=>cases hx;exact⟨(2+r5).toNat,congrArg D.int (by omega),by omega,by omega⟩
    have nx:=hN2 _ S' ⟨some (.int (m:Nat)),rfl,rfl⟩;refine⟨trivial,ts,names,others,m,rfl,Z,hW,hin,bJj nd pw,bJj nd5 pw5,by omega,by omega,by omega,cXk ?_⟩
    refine ite2 (λh=>nomatch h) λ_=>?_
    refine⟨ts,m,nn,rfl,Z,hW,n24',m2,by omega,cXk ?_⟩
    refine ite2 (λh=>nomatch h) λ_=>?_
    refine⟨ts,m,rfl,Z,hW,by omega,cXk ?_⟩
    exact ite2 (λh=>nomatch h) λ_=>nx
   ·rintro Γ S' ⟨L,rfl,rfl⟩;exact⟨trivial,hN _ _ ⟨_,_,_,_,_,_,_,_,_,rfl,dk10,Z⟩⟩
  ·rintro Γ S2 ⟨x2,x3,x4,x5,x6,x7,x8,x9,L,rfl,dk2,hP2⟩;exact⟨trivial,aZd (λ_ _ e=>e) (q _)⟩
end
end Toy
set_option maxHeartbeats 4000000
namespace Toy
open PySem L2
theorem fin{l:PySem.W.OpenLaw}{w:aQ}{K:ar}{h:aX}{mg:Str->Option ad}{fa f3:Addr}(X:K.In h)(G:h.Ns aS mg)(hfa:mg "law"=some (.ref fa))(B:Bs mg){cc pt:Addr}(CD:bX1 K mg "most_had" cc)(AB:mg "abs"=none)(BD:mg "dict"=none)
  (T1:Tx K mg "has_all" s_has_all) (T2:Tx K mg "meets" s_meets) (T3:Tx K mg "without_names" s_without_names) (T4:Tx K mg "names_of" s_names_of) (T5:Tx K mg "link_of" s_link_of) (T6:Tx K mg "flower_by_way" s_flower_by_way) (T7:Tx K mg "chosen_of" s_chosen_of) (T8:Tx K mg "most_had" s_most_had) (T9:Tx K mg "how_many_have" s_how_many_have) (T10:Tx K mg "put_again" s_put_again) (T11:Tx K mg "_law_pile" s_law_pile) (T12:Tx K mg "_law_next" s_law_next) (T13:Tx K mg "_law_names" s_law_names) (T14:Tx K mg "_law_set" s_law_set) (T15:Tx K mg "_law_collection" s_law_collection) (T16:Tx K mg "_law_called" s_law_called) (T17:Tx K mg "_law_otherwise_right" s_law_otherwise_right) (T18:Tx K mg "_law_one_more_right" s_law_one_more_right) (T19:Tx K mg "_law_link_right" s_law_link_right)
  {od3 an3:Option Addr}{sl3:Array (Option ad)}{oc3 kV3 dc3 pm3 cd3 ct3:ad}
  (a3:bu K aS "law"=some (some (.ref f3))) (l3:K.lookup f3=some ⟨oc3,od3,.func (ej "law" "law" (aXc bZc) (aZ5 bZc) (aQ3 bZc) .none kV3 dc3 pm3 an3 cd3 ct3),sl3⟩) (c3:fT K cd3 "law"=true) (k3:fc K (.ref f3)=true) :
  ∃fd:c6,(∀(s:ah) (v:ad),BindsTo s fd ⟨[v],[]⟩ [("script",v)])/\∀base:aX,K.In base->base.Ns aS mg->TabF base mg cc pt->FnOk l.prog w K mg base CX0 50 fa fd ["script"] (spU K (bJn pt lposM (lamQual "most_had") 63)):=by
 have e:=hfa.symm.trans (jw X G a3);cases e;refine⟨ej "law" "law" (aXc bZc) (aZ5 bZc) (aQ3 bZc) .none kV3 dc3 pm3 an3 cd3 ct3,λs v=>.of_eq rfl,λbase XB GB TF=>?_⟩;have F3:=dQl (st:=bZc) l3 c3 k3;have d_law_pile:=bXq (P:=l.prog) (w:=w) (base:=base) T11 B;have D:=bXr (P:=l.prog) (w:=w) (base:=base) T12 B AB;have d_law_names:=bX0 (P:=l.prog) (w:=w) (base:=base) T13 B (D.mono (by decide))
 have d_law_set:=cQb (P:=l.prog) (w:=w) (base:=base) T14 B (D.mono (by decide))
 have O:=aXx (P:=l.prog) (w:=w) (base:=base) T15 B (D.mono (by decide)) (d_law_set.mono (by decide))
 have d_meets:=dQ9 (P:=l.prog) (w:=w) (base:=base) T2 B;have d_chosen_of:=bX3 (P:=l.prog) (w:=w) (base:=base) T7 B (d_meets.mono (by decide))
 have Z:=aJa (P:=l.prog) (w:=w) (base:=base) T9 B;have d_most_had:=bXx (P:=l.prog) (w:=w) (base:=base) T8 B CD TF (Z.mono (by decide))
 have d_names_of:=bXy (P:=l.prog) (w:=w) (base:=base) T4 B;have d_has_all:=cQc (P:=l.prog) (w:=w) (base:=base) T1 B;have Y:=aJb (P:=l.prog) (w:=w) (base:=base) T3 B;have d_link_of:=cQd (P:=l.prog) (w:=w) (base:=base) T5 B (d_has_all.mono (by decide)) (Y.mono (by decide))
 have d_put_again:=bX4 (P:=l.prog) (w:=w) (base:=base) T10 B;have j:=aJc (P:=l.prog) (w:=w) (base:=base) T6 B (d_chosen_of.mono (by decide)) (d_most_had.mono (by decide)) (d_names_of.mono (by decide)) (d_link_of.mono (by decide)) (d_put_again.mono (by decide))
 have d_law_called:=bZa (P:=l.prog) (w:=w) (base:=base) T16 B;have J:=aZv (P:=l.prog) (w:=w) (base:=base) T17 B BD (j.mono (by decide)) (d_law_called.mono (by decide))
 have L:=aX3 (P:=l.prog) (w:=w) (base:=base) T18 B (j.mono (by decide))
 have N:=aXz (P:=l.prog) (w:=w) (base:=base) T19 B (j.mono (by decide))
 exact eJp F3 B (d_law_pile.mono (by decide)) (D.mono (by decide)) (d_law_names.mono (by decide)) (O.mono (by decide)) (J.mono (by decide)) (L.mono (by decide)) (N.mono (by decide))
end Toy
namespace PySem.W.Fast
theorem tw15904483489830908698:True:=⟨⟩
theorem tw5712352982899998728:True:=⟨⟩
theorem tw17183519258610168615:True:=⟨⟩
theorem tw9398286770394910808:True:=⟨⟩
theorem tw4744048091486380285:True:=⟨⟩
theorem tw15968671295511659801:True:=⟨⟩
theorem tw1767088440499393350:True:=⟨⟩
theorem tw12169172379636354236:True:=⟨⟩
theorem tw957932409734966638:True:=⟨⟩
theorem tw11162984785986159881:True:=⟨⟩
end PySem.W.Fast
open PySem PySem.W PyProof.Rows
set_option maxRecDepth 100000 in
set_option maxHeartbeats 0 in
theorem PySem.Challenge.cw_corepetals_k13_whole_way_otherwise_holds : PySem.Challenge.rw_corepetals_k13_whole_way_otherwise.Holds := by
 w_on;o_law;k_head;(case hw=>w_witness2)
 k_fill
 refine L2.walkT (l:=PySem.Challenge.rw_corepetals_k13_whole_way_otherwise) (x:="most_had") (lp:=Toy.lposM) (qual:=L2.lamQual "most_had") rfl rfl (λw h Y=>⟨PySem.W.km_in_of Y,PySem.W.km_tabs_of Y _ au⟩) ?R;refine' ⟨_,?ht,?hh,?hno,?F⟩
 case ht =>
  intro p;refine' L2.codeIn_mk ?a ?l ?e
  (case a=>k_is);(case l=>k_is);(case e=>rfl)
 case hh=>intro p;kernel_rfl
 case hno=>intro p;first|rfl|kernel_rfl
 case F =>
  intro w mg fa h KX G hmg CD;have B:L2.Bs mg:=by
   refine' L2.bs_mk KX G (L2.bs_all ?z1 ?z2 ?z3 ?z4 ?z5 ?z6 ?z7 ?z8 ?z9 ?z10 ?z11 ?z12 ?z13 ?z14 ?z15 ?z16 ?z17) <;> k_is
  have AB:mg "abs"=none:=by
   refine' hU KX G ?z
   k_is
  have BD:mg "dict"=none:=by
   refine' hU KX G ?zd
   k_is
  have T1:L2.Tx (L2.KOf KX) mg "has_all" Toy.s_has_all:=by
   dsimp only[L2.KOf];exact L2.tx_mk KX G (by k_is) (by k_is) (by k_is) (by k_is)
  have T2:L2.Tx (L2.KOf KX) mg "meets" Toy.s_meets:=by
   dsimp only[L2.KOf];exact L2.tx_mk KX G (by k_is) (by k_is) (by k_is) (by k_is)
  have T3:L2.Tx (L2.KOf KX) mg "without_names" Toy.s_without_names:=by
   dsimp only[L2.KOf];exact L2.tx_mk KX G (by k_is) (by k_is) (by k_is) (by k_is)
  have T4:L2.Tx (L2.KOf KX) mg "names_of" Toy.s_names_of:=by
   dsimp only[L2.KOf];exact L2.tx_mk KX G (by k_is) (by k_is) (by k_is) (by k_is)
  have T5:L2.Tx (L2.KOf KX) mg "link_of" Toy.s_link_of:=by
   dsimp only[L2.KOf];exact L2.tx_mk KX G (by k_is) (by k_is) (by k_is) (by k_is)
  have T6:L2.Tx (L2.KOf KX) mg "flower_by_way" Toy.s_flower_by_way:=by
   dsimp only[L2.KOf];exact L2.tx_mk KX G (by k_is) (by k_is) (by k_is) (by k_is)
  have T7:L2.Tx (L2.KOf KX) mg "chosen_of" Toy.s_chosen_of:=by
   dsimp only[L2.KOf];exact L2.tx_mk KX G (by k_is) (by k_is) (by k_is) (by k_is)
  have T8:L2.Tx (L2.KOf KX) mg "most_had" Toy.s_most_had:=by
   dsimp only[L2.KOf];exact L2.tx_mk KX G (by k_is) (by k_is) (by k_is) (by k_is)
  have T9:L2.Tx (L2.KOf KX) mg "how_many_have" Toy.s_how_many_have:=by
   dsimp only[L2.KOf];exact L2.tx_mk KX G (by k_is) (by k_is) (by k_is) (by k_is)
  have T10:L2.Tx (L2.KOf KX) mg "put_again" Toy.s_put_again:=by
   dsimp only[L2.KOf];exact L2.tx_mk KX G (by k_is) (by k_is) (by k_is) (by k_is)
  have T11:L2.Tx (L2.KOf KX) mg "_law_pile" Toy.s_law_pile:=by
   dsimp only[L2.KOf];exact L2.tx_mk KX G (by k_is) (by k_is) (by k_is) (by k_is)
  have T12:L2.Tx (L2.KOf KX) mg "_law_next" Toy.s_law_next:=by
   dsimp only[L2.KOf];exact L2.tx_mk KX G (by k_is) (by k_is) (by k_is) (by k_is)
  have T13:L2.Tx (L2.KOf KX) mg "_law_names" Toy.s_law_names:=by
   dsimp only[L2.KOf];exact L2.tx_mk KX G (by k_is) (by k_is) (by k_is) (by k_is)
  have T14:L2.Tx (L2.KOf KX) mg "_law_set" Toy.s_law_set:=by
   dsimp only[L2.KOf];exact L2.tx_mk KX G (by k_is) (by k_is) (by k_is) (by k_is)
  have T15:L2.Tx (L2.KOf KX) mg "_law_collection" Toy.s_law_collection:=by
   dsimp only[L2.KOf];exact L2.tx_mk KX G (by k_is) (by k_is) (by k_is) (by k_is)
  have T16:L2.Tx (L2.KOf KX) mg "_law_called" Toy.s_law_called:=by
   dsimp only[L2.KOf];exact L2.tx_mk KX G (by k_is) (by k_is) (by k_is) (by k_is)
  have T17:L2.Tx (L2.KOf KX) mg "_law_otherwise_right" Toy.s_law_otherwise_right:=by
   dsimp only[L2.KOf];exact L2.tx_mk KX G (by k_is) (by k_is) (by k_is) (by k_is)
  have T18:L2.Tx (L2.KOf KX) mg "_law_one_more_right" Toy.s_law_one_more_right:=by
   dsimp only[L2.KOf];exact L2.tx_mk KX G (by k_is) (by k_is) (by k_is) (by k_is)
  have T19:L2.Tx (L2.KOf KX) mg "_law_link_right" Toy.s_law_link_right:=by
   dsimp only[L2.KOf];exact L2.tx_mk KX G (by k_is) (by k_is) (by k_is) (by k_is)
  refine' Toy.fin KX G hmg B CD AB BD T1 T2 T3 T4 T5 T6 T7 T8 T9 T10 T11 T12 T13 T14 T15 T16 T17 T18 T19 ?a ?l ?c ?k
  (case a=>k_is);(case l=>k_is);(case c=>k_is);(case k=>k_is)
